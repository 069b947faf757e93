/- Proved: several texts in one: what each proves is said ahead of it. -/
import Derived.Test.YtihjndakgncdaaaGreatDoorFd05
import Derived.Test.YtihjndakgncdaaaGreatDoorFd17
import Derived.Test.YtihjndakgncdaaaGreatDoorFd00
/- Proved: what model and program tell of params (GoodParams) and of secrets (GoodSecret). -/
namespace Go.Proofs.YtihjndakgncdaaaGreatDoor
open Go.ChangeShapes Go.WideShapes Go.ChangeAt Go.RowKit
set_option linter.unusedVariables false
set_option linter.unusedSimpArgs false
def belB (T : Int) (xs : List Int) (k : Nat) : Bool := decide (∀ i, i < xs.length → k ≤ i → T < xs.getD i 0)
theorem belB_end {T : Int} {xs : List Int} {k : Nat} (h : xs.length ≤ k) : belB T xs k = true := decide_eq_true (fun i h1 h2 => by omega)
theorem belB_no {T : Int} {xs : List Int} {k : Nat} (h : k < xs.length) (hk : ¬ T < xs.getD k 0) : belB T xs k = false :=
  decide_eq_false (fun hh => hk (hh k h (Nat.le_refl _)))
theorem belB_yes {T : Int} {xs : List Int} {k : Nat} (hk : T < xs.getD k 0) : belB T xs k = belB T xs (k + 1) := by
  unfold belB
  congr 1
  apply propext
  constructor
  · intro h i h1 h2
    exact h i h1 (by omega)
  · intro h i h1 h2
    rcases Nat.lt_or_ge k i with h3 | h3
    · exact h i h1 (by omega)
    · obtain rfl : i = k := by omega
      exact hk
def prB (N T E : Int) (xs : List Int) : Bool := spB N xs && (decide (xs.length ≤ 4) && (inQ T 2 65536 && (inQ E 1 16 && belB T xs 0)))
theorem l8Space_any (N T E : Int) (a : Option Addr) (l c : Nat) (w : World) :
    Calls Tryz.prog 46 #[.agg #[.int .i64 N, .int .i64 T, .int .i64 E, .slice a l c]] w fun e w' => e = .returned (.agg #[.int .i64 N, .slice a l c]) ∧ Old w w' := by
  go_enter Tryz.func46, Tryz.ntmps46
  go_wp2_with fail
  refine bodyPost_ret (v := .agg #[.int .i64 N, .slice a l c]) (by simp [results, Tryz.results46, go_sem]) rfl ⟨rfl, ?_⟩
  exact ((Old.refl w).alloc _).alloc _
theorem spaceOf_any (N T E : Int) (a : Option Addr) (l c : Nat) (w : World) :
    Calls Tryz.prog 67 #[.agg #[.int .i64 N, .int .i64 T, .int .i64 E, .slice a l c]] w fun e w' => e = .returned (.agg #[.int .i64 N, .slice a l c]) ∧ Old w w' := by
  go_enter Tryz.func67, Tryz.ntmps67
  go_wp2_with fail
  refine bodyPost_ret (v := .agg #[.int .i64 N, .slice a l c]) (by simp [results, Tryz.results67, go_sem]) rfl ⟨rfl, ?_⟩
  exact ((Old.refl w).alloc _).alloc _
theorem l7Noise_p (b : Int) (w : World) : Calls Tryz.prog 48 #[.int .i64 b] w fun e w' => e = .returned (.bool (inQ b 1 16)) ∧ w' = w := by
  have K1 := fun W => in_any b 1 16 W
  generalize inQ b 1 16 = r at *
  go_enter Tryz.func48, Tryz.ntmps48
  go_wp2_with fail
  refine (K1 _).mono ?_
  rintro e w' ⟨rfl, rfl⟩
  go_wp2_with fail
  go_ret
  exact ⟨rfl, rfl⟩
theorem isNoise_any (b : Int) (w : World) : Calls Tryz.prog 65 #[.int .i64 b] w fun e w' => e = .returned (.bool (inQ b 1 16)) ∧ w' = w := by
  unfold inQ
  cases h : decide (1 ≤ b)
  · go_enter Tryz.func65, Tryz.ntmps65
    go_wp2_with fail
    go_ret
    exact ⟨by simp, rfl⟩
  · go_enter Tryz.func65, Tryz.ntmps65
    go_wp2_with fail
    go_ret
    exact ⟨by simp, rfl⟩
set_option maxRecDepth 100000 in
set_option maxHeartbeats 4000000 in
theorem spec_goodParams (N T E : Int) (xs : List Int) (v : Value) (w : World) (hv : Row w v xs) (hf : Fit v) (hl : xs.length ≤ 9223372036854775807) (hx : ∀ x ∈ xs, -9223372036854775808 ≤ x ∧ x ≤ 9223372036854775807) :
    Calls Tryz.prog 21 #[.agg #[.int .i64 N, .int .i64 T, .int .i64 E, v]] w fun e w' => e = .returned (.bool (prB N T E xs)) ∧ Old w w' := by
  have hxv := hv
  obtain ⟨a0, c0, rfl⟩ := hv.slice
  have HA : Hid (Old w (w.alloc (.cells #[.int .i64 N, .int .i64 T, .int .i64 E, .slice a0 xs.length c0] 25))) := (Old.refl w).alloc _
  have BA : Hid (Bk (w.alloc (.cells #[.int .i64 N, .int .i64 T, .int .i64 E, .slice a0 xs.length c0] 25)) w.heap.size #[.int .i64 N, .int .i64 T, .int .i64 E, .slice a0 xs.length c0] 25) := Bk.new' w _ _ rfl
  have K1 := fun W g => spec_goodSpace N xs _ W (hv.old g) hf hl hx
  have K4 := fun W => in_any T 2 65536 W
  have K5 := fun W => l7Noise_p E W
  have HV := hidP hv
  clear hv hxv hf hx
  unfold prB
  generalize spB N xs = s1 at *
  generalize inQ T 2 65536 = s4 at *
  generalize inQ E 1 16 = s5 at *
  cases s1
  · clear K4 K5
    go_enter Tryz.func21, Tryz.ntmps21
    go_wp2_with fail
    refine (l8Space_any N T E a0 xs.length c0 _).mono ?_
    rintro e w1 ⟨rfl, g1⟩
    have HG1 := hidP (Old.trans HA.out g1)
    have B1 := hidP (BA.out.old g1)
    clear g1
    go_wp2_with fail
    refine (K1 _ HG1.out).mono ?_
    rintro e w2 ⟨rfl, g2⟩
    have HG2 := hidP (Old.trans HG1.out g2)
    clear g2
    go_wp2_with fail
    go_ret
    exact ⟨rfl, HG2.out⟩
  by_cases h4 : xs.length ≤ 4
  case neg =>
    have d4 : decide ((4 : Int) < (xs.length : Int)) = true := decide_eq_true (by omega)
    have e4 := hidP (decide_eq_false h4)
    clear K4 K5 h4
    go_enter Tryz.func21, Tryz.ntmps21
    go_wp2_with fail
    refine (l8Space_any N T E a0 xs.length c0 _).mono ?_
    rintro e w1 ⟨rfl, g1⟩
    have HG1 := hidP (Old.trans HA.out g1)
    have B1 := hidP (BA.out.old g1)
    clear g1
    go_wp2_with fail
    refine (K1 _ HG1.out).mono ?_
    rintro e w2 ⟨rfl, g2⟩
    have HG2 := hidP (Old.trans HG1.out g2)
    have B2 := hidP (B1.out.old g2)
    clear g2
    have z3 := B2.out.c (i := 3) rfl
    go_wp2_with fail
    go_ret
    exact ⟨by rw [e4.out]; rfl, HG2.out⟩
  have d4 : decide ((4 : Int) < (xs.length : Int)) = false := decide_eq_false (by omega)
  have e4 := hidP (decide_eq_true h4)
  cases s4
  · clear K5
    go_enter Tryz.func21, Tryz.ntmps21
    go_wp2_with fail
    refine (l8Space_any N T E a0 xs.length c0 _).mono ?_
    rintro e w1 ⟨rfl, g1⟩
    have HG1 := hidP (Old.trans HA.out g1)
    have B1 := hidP (BA.out.old g1)
    clear g1
    go_wp2_with fail
    refine (K1 _ HG1.out).mono ?_
    rintro e w2 ⟨rfl, g2⟩
    have HG2 := hidP (Old.trans HG1.out g2)
    have B2 := hidP (B1.out.old g2)
    clear g2
    have z1 := B2.out.c (i := 1) rfl
    have z3 := B2.out.c (i := 3) rfl
    go_wp2_with fail
    refine (K4 _).mono ?_
    rintro e w3 ⟨rfl, hw⟩
    obtain rfl : w2 = w3 := hw.symm
    clear hw
    go_wp2_with fail
    go_ret
    exact ⟨by rw [e4.out]; rfl, HG2.out⟩
  cases s5
  · go_enter Tryz.func21, Tryz.ntmps21
    go_wp2_with fail
    refine (l8Space_any N T E a0 xs.length c0 _).mono ?_
    rintro e w1 ⟨rfl, g1⟩
    have HG1 := hidP (Old.trans HA.out g1)
    have B1 := hidP (BA.out.old g1)
    clear g1
    go_wp2_with fail
    refine (K1 _ HG1.out).mono ?_
    rintro e w2 ⟨rfl, g2⟩
    have HG2 := hidP (Old.trans HG1.out g2)
    have B2 := hidP (B1.out.old g2)
    clear g2
    have z1 := B2.out.c (i := 1) rfl
    have z2 := B2.out.c (i := 2) rfl
    have z3 := B2.out.c (i := 3) rfl
    go_wp2_with fail
    refine (K4 _).mono ?_
    rintro e w3 ⟨rfl, hw⟩
    obtain rfl : w2 = w3 := hw.symm
    clear hw
    go_wp2_with fail
    refine (K5 _).mono ?_
    rintro e w4 ⟨rfl, hw⟩
    obtain rfl : w2 = w4 := hw.symm
    clear hw
    go_wp2_with fail
    go_ret
    exact ⟨by rw [e4.out]; rfl, HG2.out⟩
  have HE : Hid ((true && (decide (xs.length ≤ 4) && (true && (true && belB T xs 0)))) = belB T xs 0) := by show _ = _; rw [e4.out]; rfl
  generalize hR : (true && (decide (xs.length ≤ 4) && (true && (true && belB T xs 0)))) = R at *
  clear hR e4
  go_enter Tryz.func21, Tryz.ntmps21
  go_wp2_with fail
  refine (l8Space_any N T E a0 xs.length c0 _).mono ?_
  rintro e w1 ⟨rfl, g1⟩
  have HG1 := hidP (Old.trans HA.out g1)
  have B1 := hidP (BA.out.old g1)
  clear g1
  go_wp2_with fail
  refine (K1 _ HG1.out).mono ?_
  rintro e w2 ⟨rfl, g2⟩
  have HG2 := hidP (Old.trans HG1.out g2)
  have B2 := hidP (B1.out.old g2)
  clear g2
  have z1 := B2.out.c (i := 1) rfl
  have z2 := B2.out.c (i := 2) rfl
  have z3 := B2.out.c (i := 3) rfl
  go_wp2_with fail
  refine (K4 _).mono ?_
  rintro e w3 ⟨rfl, hw⟩
  obtain rfl : w2 = w3 := hw.symm
  clear hw
  go_wp2_with fail
  refine (K5 _).mono ?_
  rintro e w4 ⟨rfl, hw⟩
  obtain rfl : w2 = w4 := hw.symm
  clear hw
  go_wp2_with fail
  go_loopw [30, 4] (fun i x W => ∃ k : Nat, k ≤ xs.length ∧ i = .int .i64 k ∧ Hid (R = belB T xs k) ∧ W = w2) (fun i _ _ => xs.length - (intOf i).toNat)
  case atStart => exact ⟨0, by omega, rfl, HE.out, rfl⟩
  case round =>
    obtain ⟨k, hk, rfl, H1, hW⟩ := hrel
    obtain rfl : w2 = wr := hW.symm
    clear hW
    by_cases hlt : k < xs.length
    · have d1 : decide ((k : Int) < (xs.length : Int)) = true := decide_eq_true (by omega)
      have c1 := (HV.out.old HG2.out)
      rcases c1 with ⟨a, cap, e, e2⟩ | ⟨b, o, cap, e, hb2, h3, hc⟩
      · subst e2
        simp at hlt
      simp only [Value.slice.injEq, true_and] at e
      obtain ⟨rfl, rfl⟩ := e
      have c2 := hc k hlt
      by_cases ht : T < xs.getD k 0
      · have d2 : decide (xs.getD k 0 ≤ T) = false := decide_eq_false (by omega)
        have H2 := hidP (H1.out.trans (belB_yes ht))
        clear hc H1 ht
        generalize xs.getD k 0 = y at *
        go_wp2_with fail
        exact ⟨⟨k + 1, by omega, by go_num, H2, by first | rfl | trivial⟩, by simp [intOf]; omega⟩
      · have d2 : decide (xs.getD k 0 ≤ T) = true := decide_eq_true (by omega)
        have H2 := hidP (H1.out.trans (belB_no hlt ht))
        clear hc H1 ht
        generalize xs.getD k 0 = y at *
        go_wp2_with fail
        go_ret
        exact ⟨ret_bb H2.out.symm, HG2.out⟩
    · have H2 := hidP (H1.out.trans (belB_end (by omega)))
      go_wp2_with fail
      go_ret
      exact ⟨ret_bb H2.out.symm, HG2.out⟩
theorem ret_ij {a b : Int} (h : a = b) : Ending.returned (.int .i64 a) = .returned (.int .i64 b) := by rw [h]
def mnK (xs : List Int) : Nat → Int
  | 0 => xs.getD 0 0
  | k + 1 => min (mnK xs k) (xs.getD (k + 1) 0)
theorem mnK_lt (xs : List Int) (T : Int) : ∀ k, T < mnK xs k ↔ ∀ i, i < k + 1 → T < xs.getD i 0
  | 0 => by
    constructor
    · intro h i hi
      obtain rfl : i = 0 := by omega
      exact h
    · intro h
      exact h 0 (by omega)
  | k + 1 => by
    have ih := mnK_lt xs T k
    have hm : T < mnK xs (k + 1) ↔ T < mnK xs k ∧ T < xs.getD (k + 1) 0 := by
      show T < min _ _ ↔ _
      omega
    rw [hm, ih]
    constructor
    · rintro ⟨h1, h2⟩ i hi
      rcases Nat.lt_or_ge i (k + 1) with h3 | h3
      · exact h1 i h3
      · obtain rfl : i = k + 1 := by omega
        exact h2
    · intro h
      exact ⟨fun i hi => h i (by omega), h (k + 1) (by omega)⟩
theorem mnK_bel (xs : List Int) (T : Int) (h : 0 < xs.length) : decide (T < mnK xs (xs.length - 1)) = belB T xs 0 := by
  unfold belB
  congr 1
  apply propext
  rw [mnK_lt]
  constructor
  · intro h1 i h2 _
    exact h1 i (by omega)
  · intro h1 i h2
    exact h1 i (by omega) (by omega)
set_option maxRecDepth 100000 in
set_option maxHeartbeats 2000000 in
theorem min_any (xs : List Int) (v : Value) (w : World) (hv : Row w v xs) (h0 : 0 < xs.length) (hl : xs.length ≤ 9223372036854775807) :
    Calls Tryz.prog 68 #[v] w fun e w' => e = .returned (.int .i64 (mnK xs (xs.length - 1))) ∧ w' = w := by
  rcases hv with ⟨a, cap, e, e2⟩ | ⟨b, o, cap, rfl, hb2, h3, hc⟩
  · subst e2
    simp at h0
  have c0 : w.cell? ⟨b, o, none⟩ = some (.int .i64 (xs.getD 0 0)) := hc 0 h0
  have d0 : decide ((xs.length : Int) < 1) = false := decide_eq_false (by omega)
  have e0 : Hid (xs.getD 0 0 = mnK xs 0) := rfl
  generalize hy : xs.getD 0 0 = y at *
  clear hy
  have HC := hidP hc
  clear hc
  go_enter Tryz.func68, Tryz.ntmps68
  go_wp2_with fail
  go_loopw [4, 3] (fun i m W => ∃ (k : Nat) (z : Int), k + 1 ≤ xs.length ∧ i = .int .i64 ((k : Int) + 1) ∧ m = .int .i64 z ∧ Hid (z = mnK xs k) ∧ W = w) (fun i _ _ => xs.length - (intOf i).toNat)
  case atStart => exact ⟨0, y, by omega, rfl, rfl, e0, rfl⟩
  case round =>
    obtain ⟨k, z, hk, rfl, rfl, H1, hW⟩ := hrel
    obtain rfl : w = wr := hW.symm
    clear hW c0
    by_cases hlt : k + 1 < xs.length
    · have d1 : decide ((k : Int) + 1 < (xs.length : Int)) = true := decide_eq_true (by omega)
      have c2 := HC.out (k + 1) hlt
      have H2 : Hid (min z (xs.getD (k + 1) 0) = mnK xs (k + 1)) := by show _ = _; rw [H1.out]; rfl
      generalize xs.getD (k + 1) 0 = x at *
      go_wp2_with fail
      exact ⟨⟨k + 1, _, by omega, by go_num, rfl, H2, trivial⟩, by simp [intOf]; omega⟩
    · have d1 : decide ((k : Int) + 1 < (xs.length : Int)) = false := decide_eq_false (by omega)
      have H2 : Hid (z = mnK xs (xs.length - 1)) := by rw [show xs.length - 1 = k by omega]; exact H1
      go_wp2_with fail
      go_ret
      exact ⟨ret_ij H2.out, rfl⟩
end Go.Proofs.YtihjndakgncdaaaGreatDoor
/- Proved: contracts of the program's ringsOfParams and GoodParams. -/
namespace Go.Proofs.YtihjndakgncdaaaGreatDoor
open Go.ChangeShapes Go.WideShapes Go.ChangeAt Go.RowKit
set_option linter.unusedVariables false
set_option linter.unusedSimpArgs false
set_option maxRecDepth 100000 in
set_option maxHeartbeats 4000000 in
theorem impl_ringsOfParams (N T E : Int) (xs : List Int) (Rf : Nat → Int) (v : Value) (w : World) (hP : PrsW w) (hT : TabW w) (hv : Row w v xs) (hf : Fit v) (hl : xs.length ≤ 9223372036854775807)
    (hRf : ∀ k, RingOk (xs.getD k 0) N → (0 ≤ Rf k ∧ Rf k < xs.getD k 0) ∧ (∀ W, PrsW W → TabW W → Calls Tryz.prog 85 #[.int .i64 (xs.getD k 0), .int .i64 N] W fun e w' => e = .returned (.tuple #[.agg #[.int .i64 (xs.getD k 0), .int .i64 N, .int .i64 (Rf k)], .bool true]) ∧ Old W w')) :
    Calls Tryz.prog 37 #[.agg #[.int .i64 N, .int .i64 T, .int .i64 E, v]] w fun e w' => Old w w' ∧ ((prB N T E xs = false ∧ e = .returned (.tuple #[.slice none 0 0, .bool false])) ∨ (prB N T E xs = true ∧ ∃ g, w.heap.size ≤ g ∧ e = .returned (.tuple #[.slice (some ⟨g, 0, none⟩) xs.length xs.length, .bool true]) ∧ Rgs w' g N xs Rf xs.length)) := by
  obtain ⟨a0, c0, rfl⟩ := hv.slice
  have HA : Hid (Old w (w.alloc (.cells #[.int .i64 N, .int .i64 T, .int .i64 E, .slice a0 xs.length c0] 25))) := (Old.refl w).alloc _
  have BA : Hid (Bk (w.alloc (.cells #[.int .i64 N, .int .i64 T, .int .i64 E, .slice a0 xs.length c0] 25)) w.heap.size #[.int .i64 N, .int .i64 T, .int .i64 E, .slice a0 xs.length c0] 25) := Bk.new' w _ _ rfl
  have K1 := fun W g => impl_rings N xs Rf _ W (hP.old g) (hT.old g) (hv.old g) hf hl hRf
  have K5 := fun W => isNoise_any E W
  have HM : Hid (spB N xs = true → (∀ W, Old w W → Calls Tryz.prog 68 #[.slice a0 xs.length c0] W fun e w' => e = .returned (.int .i64 (mnK xs (xs.length - 1))) ∧ w' = W) ∧ decide (T < mnK xs (xs.length - 1)) = belB T xs 0) := fun hs => by
    have h1 := (bas_at (sp_ring hs).2.1).1
    exact ⟨fun W g => min_any xs _ W (hv.old g) (by omega) hl, mnK_bel xs T (by omega)⟩
  clear hv hf hP hT hRf
  by_cases h4 : xs.length ≤ 4
  case neg =>
    have d4 : decide ((4 : Int) < (xs.length : Int)) = true := decide_eq_true (by omega)
    have e4 : Hid (prB N T E xs = false) := by show _ = _; unfold prB; rw [decide_eq_false h4]; simp
    clear K1 K5 h4
    go_enter Tryz.func37, Tryz.ntmps37
    go_wp2_with fail
    exact bodyPost_ret (v := .tuple #[.slice none 0 0, .bool false]) (by simp [results, Tryz.results37, go_sem]) rfl ⟨HA.out, Or.inl ⟨e4.out, rfl⟩⟩
  have d4 : decide ((4 : Int) < (xs.length : Int)) = false := decide_eq_false (by omega)
  cases h5 : inQ E 1 16
  · rw [h5] at K5
    have e4 : Hid (prB N T E xs = false) := by show _ = _; unfold prB; rw [h5]; simp
    clear K1 h4 h5
    go_enter Tryz.func37, Tryz.ntmps37
    go_wp2_with fail
    refine (K5 _).mono ?_
    rintro e w4 ⟨rfl, hw⟩
    obtain rfl := hw.symm
    clear hw
    go_wp2_with fail
    exact bodyPost_ret (v := .tuple #[.slice none 0 0, .bool false]) (by simp [results, Tryz.results37, go_sem]) rfl ⟨HA.out, Or.inl ⟨e4.out, rfl⟩⟩
  rw [h5] at K5
  by_cases h2 : T < 2
  · have d2 := decide_eq_true h2
    have e4 : Hid (prB N T E xs = false) := by show _ = _; unfold prB inQ; rw [decide_eq_false (show ¬ 2 ≤ T by omega)]; simp
    clear K1 h4 h5 h2
    go_enter Tryz.func37, Tryz.ntmps37
    go_wp2_with fail
    refine (K5 _).mono ?_
    rintro e w4 ⟨rfl, hw⟩
    obtain rfl := hw.symm
    clear hw
    go_wp2_with fail
    exact bodyPost_ret (v := .tuple #[.slice none 0 0, .bool false]) (by simp [results, Tryz.results37, go_sem]) rfl ⟨HA.out, Or.inl ⟨e4.out, rfl⟩⟩
  have d2 := decide_eq_false h2
  by_cases h3 : 65536 < T
  · have d3 := decide_eq_true h3
    have e4 : Hid (prB N T E xs = false) := by show _ = _; unfold prB inQ; rw [decide_eq_false (show ¬ T ≤ 65536 by omega)]; simp
    clear K1 h4 h5 h2 h3
    go_enter Tryz.func37, Tryz.ntmps37
    go_wp2_with fail
    refine (K5 _).mono ?_
    rintro e w4 ⟨rfl, hw⟩
    obtain rfl := hw.symm
    clear hw
    go_wp2_with fail
    exact bodyPost_ret (v := .tuple #[.slice none 0 0, .bool false]) (by simp [results, Tryz.results37, go_sem]) rfl ⟨HA.out, Or.inl ⟨e4.out, rfl⟩⟩
  have d3 := decide_eq_false h3
  have hT : Hid (inQ T 2 65536 = true) := by show _ = _; unfold inQ; rw [decide_eq_true (show 2 ≤ T by omega), decide_eq_true (show T ≤ 65536 by omega)]; rfl
  have hpr : Hid (spB N xs = true → prB N T E xs = belB T xs 0) := fun h => by unfold prB; rw [h, decide_eq_true h4, hT.out, h5]; simp
  have hpn : Hid (spB N xs = false → prB N T E xs = false) := fun h => by unfold prB; rw [h]; rfl
  clear h4 h5 h2 h3 hT
  go_enter Tryz.func37, Tryz.ntmps37
  go_wp2_with fail
  refine (K5 _).mono ?_
  rintro e w4 ⟨rfl, hw⟩
  obtain rfl := hw.symm
  clear hw
  go_wp2_with fail
  refine (spaceOf_any N T E a0 xs.length c0 _).mono ?_
  rintro e w1 ⟨rfl, g1⟩
  have HG1 := hidP (Old.trans HA.out g1)
  have B1 := hidP (BA.out.old g1)
  clear g1
  go_wp2_with fail
  refine (K1 _ HG1.out).mono ?_
  rintro e w2 ⟨g2, h⟩
  have HG2 := hidP (Old.trans HG1.out g2)
  have B2 := hidP (B1.out.old g2)
  have hs1 := HG1.out.size
  clear g2 K1 K5
  rcases h with ⟨hB, rfl⟩ | ⟨hB, g, hg, rfl, hrg⟩
  · have e4 := hidP (hpn.out hB)
    clear hB hpr hpn
    go_wp2_with fail
    go_quiet (fail)
    go_wp2_with fail
    exact bodyPost_ret (v := .tuple #[.slice none 0 0, .bool false]) (by simp [results, Tryz.results37, go_sem]) rfl ⟨(HG2.out.drewN _), Or.inl ⟨e4.out, rfl⟩⟩
  · obtain ⟨KM, EM⟩ := HM.out hB
    have e4 := hidP ((hpr.out hB).trans EM.symm)
    have HRG := hidP hrg
    have hg2 : w.heap.size ≤ g := by omega
    have z1 := B2.out.c (i := 1) rfl
    have z3 := B2.out.c (i := 3) rfl
    clear hB hpr hpn HM EM hrg hg
    generalize mnK xs (xs.length - 1) = mm at *
    by_cases hm : mm ≤ T
    · have dm := decide_eq_true hm
      have e5 : Hid (prB N T E xs = false) := by show _ = _; rw [e4.out]; exact decide_eq_false (by omega)
      clear hm e4
      go_wp2_with fail
      go_quiet (first | (go_at_call 68; refine Calls.quiet_of_same (KM _ (HG2.out.drewN _))) | fail)
      go_wp2_with fail
      exact bodyPost_ret (v := .tuple #[.slice none 0 0, .bool false]) (by simp [results, Tryz.results37, go_sem]) rfl ⟨(HG2.out.drewN _), Or.inl ⟨e5.out, rfl⟩⟩
    · have dm := decide_eq_false hm
      have e5 : Hid (prB N T E xs = true) := by show _ = _; rw [e4.out]; exact decide_eq_true (by omega)
      clear hm e4
      go_wp2_with fail
      go_quiet (first | (go_at_call 68; refine Calls.quiet_of_same (KM _ (HG2.out.drewN _))) | fail)
      go_wp2_with fail
      exact bodyPost_ret (v := .tuple #[.slice (some ⟨g, 0, none⟩) xs.length xs.length, .bool true]) (by simp [results, Tryz.results37, go_sem]) rfl ⟨HG2.out.drewN _, .inr ⟨e5.out, g, hg2, rfl, HRG.out.old ((Old.refl w2).drewN _)⟩⟩
end Go.Proofs.YtihjndakgncdaaaGreatDoor
