/- Proved: several texts in one: what each proves is said ahead of it. -/
import Derived.Test.YtfgooclnohnkmaaDoorKB
import Derived.Test.YtfgooclnohnkmaaDoorNC
import Derived.Test.YtfgooclnohnkmaaDoorNB
/- Proved: the contract of the model's BitBack: a number's bits from the last to the first; 0 where an argument is out of its bounds. -/
namespace Go.Proofs.YtfgooclnohnkmaaDoor
open Go.ChangeShapes Go.WideShapes Go.ChangeAt Go.RowKit
set_option linter.unusedVariables false
def inQ (x lo hi : Int) : Bool := decide (lo ≤ x) && decide (x ≤ hi)
theorem in_any (x lo hi : Int) (w : World) :
    Calls Tryd.prog 76 #[.int .i64 x, .int .i64 lo, .int .i64 hi] w fun e w' => e = .returned (.bool (inQ x lo hi)) ∧ w' = w := by
  by_cases h : lo ≤ x
  · have hd2 : decide (lo ≤ x) = true := by simp; omega
    go_enter Tryd.func76, Tryd.ntmps76
    go_wp2_with fail
    go_ret
    exact ⟨by simp [inQ, hd2], rfl⟩
  · have hd2 : decide (lo ≤ x) = false := by simp; omega
    go_enter Tryd.func76, Tryd.ntmps76
    go_wp2_with fail
    go_ret
    exact ⟨by simp [inQ, hd2], rfl⟩
end Go.Proofs.YtfgooclnohnkmaaDoor
/- Proved: what model and program tell of params (GoodParams) and of secrets (GoodSecret). -/
namespace Go.Proofs.YtfgooclnohnkmaaDoor
open Go.ChangeShapes Go.WideShapes Go.ChangeAt Go.RowKit
set_option linter.unusedVariables false
set_option linter.unusedSimpArgs false
/-- T is below each -/
def belB (T : Int) (xs : List Int) (k : Nat) : Bool := decide (∀ i, i < xs.length → k ≤ i → T < xs.getD i 0)
theorem belB_end {T : Int} {xs : List Int} {k : Nat} (h : xs.length ≤ k) : belB T xs k = true := decide_eq_true (fun i h1 h2 => by omega)
theorem belB_no {T : Int} {xs : List Int} {k : Nat} (h : k < xs.length) (hk : ¬ T < xs.getD k 0) : belB T xs k = false :=
  decide_eq_false (fun hh => hk (hh k h (Nat.le_refl _)))
theorem belB_yes {T : Int} {xs : List Int} {k : Nat} (hk : T < xs.getD k 0) : belB T xs k = belB T xs (k + 1) := by
  unfold belB
  congr 1
  apply propext
  constructor
  · intro h i h1 h2
    exact h i h1 (by omega)
  · intro h i h1 h2
    rcases Nat.lt_or_ge k i with h3 | h3
    · exact h i h1 (by omega)
    · obtain rfl : i = k := by omega
      exact hk
/-- params are good -/
def prB (N T E : Int) (xs : List Int) : Bool := spB N xs && (decide (xs.length ≤ 4) && (inQ T 2 65536 && (inQ E 1 16 && belB T xs 0)))
/-- as many as n, each within -m .. m -/
def winB (m : Int) (ss : List Int) (k : Nat) : Bool := decide (∀ i, i < ss.length → k ≤ i → -m ≤ ss.getD i 0 ∧ ss.getD i 0 ≤ m)
theorem winB_end {m : Int} {ss : List Int} {k : Nat} (h : ss.length ≤ k) : winB m ss k = true := decide_eq_true (fun i h1 h2 => by omega)
theorem winB_no {m : Int} {ss : List Int} {k : Nat} (h : k < ss.length) (hk : ¬ (-m ≤ ss.getD k 0 ∧ ss.getD k 0 ≤ m)) : winB m ss k = false :=
  decide_eq_false (fun hh => hk (hh k h (Nat.le_refl _)))
theorem winB_yes {m : Int} {ss : List Int} {k : Nat} (hk : -m ≤ ss.getD k 0 ∧ ss.getD k 0 ≤ m) : winB m ss k = winB m ss (k + 1) := by
  unfold winB
  congr 1
  apply propext
  constructor
  · intro h i h1 h2
    exact h i h1 (by omega)
  · intro h i h1 h2
    rcases Nat.lt_or_ge k i with h3 | h3
    · exact h i h1 (by omega)
    · obtain rfl : i = k := by omega
      exact hk
def wiB (n m : Int) (ss : List Int) : Bool := decide ((ss.length : Int) = n) && winB m ss 0
theorem l8Space_any (N T E : Int) (a : Option Addr) (l c : Nat) (w : World) :
    Calls Tryd.prog 106 #[.agg #[.int .i64 N, .int .i64 T, .int .i64 E, .slice a l c]] w fun e w' => e = .returned (.agg #[.int .i64 N, .slice a l c]) ∧ Old w w' := by
  go_enter Tryd.func106, Tryd.ntmps106
  go_wp2_with fail
  refine bodyPost_ret (v := .agg #[.int .i64 N, .slice a l c]) (by simp [results, Tryd.results106, go_sem]) rfl ⟨rfl, ?_⟩
  exact ((Old.refl w).alloc _).alloc _
theorem spaceOf_any (N T E : Int) (a : Option Addr) (l c : Nat) (w : World) :
    Calls Tryd.prog 108 #[.agg #[.int .i64 N, .int .i64 T, .int .i64 E, .slice a l c]] w fun e w' => e = .returned (.agg #[.int .i64 N, .slice a l c]) ∧ Old w w' := by
  go_enter Tryd.func108, Tryd.ntmps108
  go_wp2_with fail
  refine bodyPost_ret (v := .agg #[.int .i64 N, .slice a l c]) (by simp [results, Tryd.results108, go_sem]) rfl ⟨rfl, ?_⟩
  exact ((Old.refl w).alloc _).alloc _
theorem l7Noise_p (b : Int) (w : World) : Calls Tryd.prog 107 #[.int .i64 b] w fun e w' => e = .returned (.bool (inQ b 1 16)) ∧ w' = w := by
  have K1 := fun W => in_any b 1 16 W
  generalize inQ b 1 16 = r at *
  go_enter Tryd.func107, Tryd.ntmps107
  go_wp2_with fail
  refine (K1 _).mono ?_
  rintro e w' ⟨rfl, rfl⟩
  go_wp2_with fail
  go_ret
  exact ⟨rfl, rfl⟩
theorem isNoise_any (b : Int) (w : World) : Calls Tryd.prog 109 #[.int .i64 b] w fun e w' => e = .returned (.bool (inQ b 1 16)) ∧ w' = w := by
  unfold inQ
  cases h : decide (1 ≤ b)
  · go_enter Tryd.func109, Tryd.ntmps109
    go_wp2_with fail
    go_ret
    exact ⟨by simp, rfl⟩
  · go_enter Tryd.func109, Tryd.ntmps109
    go_wp2_with fail
    go_ret
    exact ⟨by simp, rfl⟩
set_option maxRecDepth 100000 in
set_option maxHeartbeats 4000000 in
theorem spec_goodParams (N T E : Int) (xs : List Int) (v : Value) (w : World) (hv : Row w v xs) (hf : Fit v) (hl : xs.length ≤ 9223372036854775807) (hx : ∀ x ∈ xs, -9223372036854775808 ≤ x ∧ x ≤ 9223372036854775807) :
    Calls Tryd.prog 39 #[.agg #[.int .i64 N, .int .i64 T, .int .i64 E, v]] w fun e w' => e = .returned (.bool (prB N T E xs)) ∧ Old w w' := by
  have hxv : Row w v xs := hv
  obtain ⟨a0, c0, rfl⟩ := hv.slice
  have HA : Hid (Old w (w.alloc (.cells #[.int .i64 N, .int .i64 T, .int .i64 E, .slice a0 xs.length c0] 69))) := (Old.refl w).alloc _
  have BA : Hid (Bk (w.alloc (.cells #[.int .i64 N, .int .i64 T, .int .i64 E, .slice a0 xs.length c0] 69)) w.heap.size #[.int .i64 N, .int .i64 T, .int .i64 E, .slice a0 xs.length c0] 69) := Bk.new' w _ _ rfl
  have K1 : ∀ W, Old w W → Calls Tryd.prog 97 #[.agg #[.int .i64 N, .slice a0 xs.length c0]] W fun e w' => e = .returned (.bool (spB N xs)) ∧ Old W w' := fun W g => spec_goodSpace N xs _ W (hv.old g) hf hl hx
  have K4 := fun W => in_any T 2 65536 W
  have K5 := fun W => l7Noise_p E W
  have HV : Hid (Row w (.slice a0 xs.length c0) xs) := hv
  clear hv hxv hf hx
  unfold prB
  generalize spB N xs = s1 at *
  generalize inQ T 2 65536 = s4 at *
  generalize inQ E 1 16 = s5 at *
  cases s1
  · clear K4 K5
    go_enter Tryd.func39, Tryd.ntmps39
    go_wp2_with fail
    refine (l8Space_any N T E a0 xs.length c0 _).mono ?_
    rintro e w1 ⟨rfl, g1⟩
    have HG1 : Hid (Old w w1) := Old.trans HA.out g1
    have B1 : Hid (Bk w1 w.heap.size #[.int .i64 N, .int .i64 T, .int .i64 E, .slice a0 xs.length c0] 69) := BA.out.old g1
    clear g1
    go_wp2_with fail
    refine (K1 _ HG1.out).mono ?_
    rintro e w2 ⟨rfl, g2⟩
    have HG2 : Hid (Old w w2) := Old.trans HG1.out g2
    have B2 : Hid (Bk w2 w.heap.size #[.int .i64 N, .int .i64 T, .int .i64 E, .slice a0 xs.length c0] 69) := B1.out.old g2
    clear g2
    have z1 := B2.out.c (i := 1) rfl
    have z2 := B2.out.c (i := 2) rfl
    have z3 := B2.out.c (i := 3) rfl
    go_wp2_with fail
    go_ret
    exact ⟨rfl, HG2.out⟩
  by_cases h4 : xs.length ≤ 4
  case neg =>
    have d4 : decide ((4 : Int) < (xs.length : Int)) = true := decide_eq_true (by omega)
    have e4 : Hid (decide (xs.length ≤ 4) = false) := decide_eq_false h4
    clear K4 K5 h4
    go_enter Tryd.func39, Tryd.ntmps39
    go_wp2_with fail
    refine (l8Space_any N T E a0 xs.length c0 _).mono ?_
    rintro e w1 ⟨rfl, g1⟩
    have HG1 : Hid (Old w w1) := Old.trans HA.out g1
    have B1 : Hid (Bk w1 w.heap.size #[.int .i64 N, .int .i64 T, .int .i64 E, .slice a0 xs.length c0] 69) := BA.out.old g1
    clear g1
    go_wp2_with fail
    refine (K1 _ HG1.out).mono ?_
    rintro e w2 ⟨rfl, g2⟩
    have HG2 : Hid (Old w w2) := Old.trans HG1.out g2
    have B2 : Hid (Bk w2 w.heap.size #[.int .i64 N, .int .i64 T, .int .i64 E, .slice a0 xs.length c0] 69) := B1.out.old g2
    clear g2
    have z1 := B2.out.c (i := 1) rfl
    have z2 := B2.out.c (i := 2) rfl
    have z3 := B2.out.c (i := 3) rfl
    go_wp2_with fail
    go_ret
    exact ⟨by rw [e4.out]; rfl, HG2.out⟩
  have d4 : decide ((4 : Int) < (xs.length : Int)) = false := decide_eq_false (by omega)
  have e4 : Hid (decide (xs.length ≤ 4) = true) := decide_eq_true h4
  cases s4
  · clear K5
    go_enter Tryd.func39, Tryd.ntmps39
    go_wp2_with fail
    refine (l8Space_any N T E a0 xs.length c0 _).mono ?_
    rintro e w1 ⟨rfl, g1⟩
    have HG1 : Hid (Old w w1) := Old.trans HA.out g1
    have B1 : Hid (Bk w1 w.heap.size #[.int .i64 N, .int .i64 T, .int .i64 E, .slice a0 xs.length c0] 69) := BA.out.old g1
    clear g1
    go_wp2_with fail
    refine (K1 _ HG1.out).mono ?_
    rintro e w2 ⟨rfl, g2⟩
    have HG2 : Hid (Old w w2) := Old.trans HG1.out g2
    have B2 : Hid (Bk w2 w.heap.size #[.int .i64 N, .int .i64 T, .int .i64 E, .slice a0 xs.length c0] 69) := B1.out.old g2
    clear g2
    have z1 := B2.out.c (i := 1) rfl
    have z2 := B2.out.c (i := 2) rfl
    have z3 := B2.out.c (i := 3) rfl
    go_wp2_with fail
    refine (K4 _).mono ?_
    rintro e w3 ⟨rfl, hw⟩
    obtain rfl : w2 = w3 := hw.symm
    clear hw
    go_wp2_with fail
    go_ret
    exact ⟨by rw [e4.out]; rfl, HG2.out⟩
  cases s5
  · go_enter Tryd.func39, Tryd.ntmps39
    go_wp2_with fail
    refine (l8Space_any N T E a0 xs.length c0 _).mono ?_
    rintro e w1 ⟨rfl, g1⟩
    have HG1 : Hid (Old w w1) := Old.trans HA.out g1
    have B1 : Hid (Bk w1 w.heap.size #[.int .i64 N, .int .i64 T, .int .i64 E, .slice a0 xs.length c0] 69) := BA.out.old g1
    clear g1
    go_wp2_with fail
    refine (K1 _ HG1.out).mono ?_
    rintro e w2 ⟨rfl, g2⟩
    have HG2 : Hid (Old w w2) := Old.trans HG1.out g2
    have B2 : Hid (Bk w2 w.heap.size #[.int .i64 N, .int .i64 T, .int .i64 E, .slice a0 xs.length c0] 69) := B1.out.old g2
    clear g2
    have z1 := B2.out.c (i := 1) rfl
    have z2 := B2.out.c (i := 2) rfl
    have z3 := B2.out.c (i := 3) rfl
    go_wp2_with fail
    refine (K4 _).mono ?_
    rintro e w3 ⟨rfl, hw⟩
    obtain rfl : w2 = w3 := hw.symm
    clear hw
    go_wp2_with fail
    refine (K5 _).mono ?_
    rintro e w4 ⟨rfl, hw⟩
    obtain rfl : w2 = w4 := hw.symm
    clear hw
    go_wp2_with fail
    go_ret
    exact ⟨by rw [e4.out]; rfl, HG2.out⟩
  have HE : Hid ((true && (decide (xs.length ≤ 4) && (true && (true && belB T xs 0)))) = belB T xs 0) := by show _ = _; rw [e4.out]; rfl
  generalize hR : (true && (decide (xs.length ≤ 4) && (true && (true && belB T xs 0)))) = R at *
  clear hR e4
  go_enter Tryd.func39, Tryd.ntmps39
  go_wp2_with fail
  refine (l8Space_any N T E a0 xs.length c0 _).mono ?_
  rintro e w1 ⟨rfl, g1⟩
  have HG1 : Hid (Old w w1) := Old.trans HA.out g1
  have B1 : Hid (Bk w1 w.heap.size #[.int .i64 N, .int .i64 T, .int .i64 E, .slice a0 xs.length c0] 69) := BA.out.old g1
  clear g1
  go_wp2_with fail
  refine (K1 _ HG1.out).mono ?_
  rintro e w2 ⟨rfl, g2⟩
  have HG2 : Hid (Old w w2) := Old.trans HG1.out g2
  have B2 : Hid (Bk w2 w.heap.size #[.int .i64 N, .int .i64 T, .int .i64 E, .slice a0 xs.length c0] 69) := B1.out.old g2
  clear g2
  have z1 := B2.out.c (i := 1) rfl
  have z2 := B2.out.c (i := 2) rfl
  have z3 := B2.out.c (i := 3) rfl
  go_wp2_with fail
  refine (K4 _).mono ?_
  rintro e w3 ⟨rfl, hw⟩
  obtain rfl : w2 = w3 := hw.symm
  clear hw
  go_wp2_with fail
  refine (K5 _).mono ?_
  rintro e w4 ⟨rfl, hw⟩
  obtain rfl : w2 = w4 := hw.symm
  clear hw
  go_wp2_with fail
  go_loopw [30, 4] (fun i x W => ∃ k : Nat, k ≤ xs.length ∧ i = .int .i64 k ∧ Hid (R = belB T xs k) ∧ W = w2) (fun i _ _ => xs.length - (intOf i).toNat)
  case atStart => exact ⟨0, by omega, rfl, HE.out, rfl⟩
  case round =>
    obtain ⟨k, hk, rfl, H1, hW⟩ := hrel
    obtain rfl : w2 = wr := hW.symm
    clear hW
    by_cases hlt : k < xs.length
    · have d1 : decide ((k : Int) < (xs.length : Int)) = true := decide_eq_true (by omega)
      have c1 := (HV.out.old HG2.out)
      rcases c1 with ⟨a, cap, e, e2⟩ | ⟨b, o, cap, e, hb2, h3, hc⟩
      · subst e2
        simp at hlt
      simp only [Value.slice.injEq, true_and] at e
      obtain ⟨rfl, rfl⟩ := e
      have c2 := hc k hlt
      by_cases ht : T < xs.getD k 0
      · have d2 : decide (xs.getD k 0 ≤ T) = false := decide_eq_false (by omega)
        have H2 : Hid (R = belB T xs (k + 1)) := H1.out.trans (belB_yes ht)
        clear hc H1 ht
        generalize xs.getD k 0 = y at *
        go_wp2_with fail
        exact ⟨⟨k + 1, by omega, by go_num, H2, by first | rfl | trivial⟩, by simp [intOf]; omega⟩
      · have d2 : decide (xs.getD k 0 ≤ T) = true := decide_eq_true (by omega)
        have H2 : Hid (R = false) := H1.out.trans (belB_no hlt ht)
        clear hc H1 ht
        generalize xs.getD k 0 = y at *
        go_wp2_with fail
        go_ret
        exact ⟨ret_bb H2.out.symm, HG2.out⟩
    · have d1 : decide ((k : Int) < (xs.length : Int)) = false := decide_eq_false (by omega)
      have H2 : Hid (R = true) := H1.out.trans (belB_end (by omega))
      go_wp2_with fail
      go_ret
      exact ⟨ret_bb H2.out.symm, HG2.out⟩
theorem ret_ij {a b : Int} (h : a = b) : Ending.returned (.int .i64 a) = .returned (.int .i64 b) := by rw [h]
/-- the least of the first k + 1 numbers -/
def mnK (xs : List Int) : Nat → Int
  | 0 => xs.getD 0 0
  | k + 1 => min (mnK xs k) (xs.getD (k + 1) 0)
theorem mnK_lt (xs : List Int) (T : Int) : ∀ k, T < mnK xs k ↔ ∀ i, i < k + 1 → T < xs.getD i 0
  | 0 => by
    constructor
    · intro h i hi
      obtain rfl : i = 0 := by omega
      exact h
    · intro h
      exact h 0 (by omega)
  | k + 1 => by
    have ih := mnK_lt xs T k
    have hm : T < mnK xs (k + 1) ↔ T < mnK xs k ∧ T < xs.getD (k + 1) 0 := by
      show T < min _ _ ↔ _
      omega
    rw [hm, ih]
    constructor
    · rintro ⟨h1, h2⟩ i hi
      rcases Nat.lt_or_ge i (k + 1) with h3 | h3
      · exact h1 i h3
      · obtain rfl : i = k + 1 := by omega
        exact h2
    · intro h
      exact ⟨fun i hi => h i (by omega), h (k + 1) (by omega)⟩
theorem mnK_bel (xs : List Int) (T : Int) (h : 0 < xs.length) : decide (T < mnK xs (xs.length - 1)) = belB T xs 0 := by
  unfold belB
  congr 1
  apply propext
  rw [mnK_lt]
  constructor
  · intro h1 i h2 _
    exact h1 i (by omega)
  · intro h1 i h2
    exact h1 i (by omega) (by omega)
set_option maxRecDepth 100000 in
set_option maxHeartbeats 2000000 in
theorem min_any (xs : List Int) (v : Value) (w : World) (hv : Row w v xs) (h0 : 0 < xs.length) (hl : xs.length ≤ 9223372036854775807) :
    Calls Tryd.prog 110 #[v] w fun e w' => e = .returned (.int .i64 (mnK xs (xs.length - 1))) ∧ w' = w := by
  rcases hv with ⟨a, cap, e, e2⟩ | ⟨b, o, cap, rfl, hb2, h3, hc⟩
  · subst e2
    simp at h0
  have c0 : w.cell? ⟨b, o, none⟩ = some (.int .i64 (xs.getD 0 0)) := hc 0 h0
  have d0 : decide ((xs.length : Int) < 1) = false := decide_eq_false (by omega)
  have e0 : Hid (xs.getD 0 0 = mnK xs 0) := rfl
  generalize hy : xs.getD 0 0 = y at *
  clear hy
  have HC : Hid (∀ j, j < xs.length → w.cell? ⟨b, o + j, none⟩ = some (.int .i64 (xs.getD j 0))) := hc
  clear hc
  go_enter Tryd.func110, Tryd.ntmps110
  go_wp2_with fail
  go_loopw [4, 3] (fun i m W => ∃ (k : Nat) (z : Int), k + 1 ≤ xs.length ∧ i = .int .i64 ((k : Int) + 1) ∧ m = .int .i64 z ∧ Hid (z = mnK xs k) ∧ W = w) (fun i _ _ => xs.length - (intOf i).toNat)
  case atStart => exact ⟨0, y, by omega, rfl, rfl, e0, rfl⟩
  case round =>
    obtain ⟨k, z, hk, rfl, rfl, H1, hW⟩ := hrel
    obtain rfl : w = wr := hW.symm
    clear hW c0
    by_cases hlt : k + 1 < xs.length
    · have d1 : decide ((k : Int) + 1 < (xs.length : Int)) = true := decide_eq_true (by omega)
      have c2 := HC.out (k + 1) hlt
      have H2 : Hid (min z (xs.getD (k + 1) 0) = mnK xs (k + 1)) := by show _ = _; rw [H1.out]; rfl
      generalize xs.getD (k + 1) 0 = x at *
      have e3 : Hid (o + (k + 1) = o + (k + 1)) := rfl
      go_wp2_with fail
      exact ⟨⟨k + 1, _, by omega, by go_num, rfl, H2, trivial⟩, by simp [intOf]; omega⟩
    · have d1 : decide ((k : Int) + 1 < (xs.length : Int)) = false := decide_eq_false (by omega)
      have H2 : Hid (z = mnK xs (xs.length - 1)) := by rw [show xs.length - 1 = k by omega]; exact H1
      go_wp2_with fail
      go_ret
      exact ⟨ret_ij H2.out, rfl⟩
set_option maxRecDepth 100000 in
set_option maxHeartbeats 4000000 in
theorem impl_goodParams (N T E : Int) (xs : List Int) (v : Value) (w : World) (hP : PrsW w) (hT : TabW w) (hv : Row w v xs) (hf : Fit v) (hl : xs.length ≤ 9223372036854775807) :
    Calls Tryd.prog 41 #[.agg #[.int .i64 N, .int .i64 T, .int .i64 E, v]] w fun e w' => e = .returned (.bool (prB N T E xs)) ∧ Old w w' := by
  have hxv : Row w v xs := hv
  obtain ⟨a0, c0, rfl⟩ := hv.slice
  have HA : Hid (Old w (w.alloc (.cells #[.int .i64 N, .int .i64 T, .int .i64 E, .slice a0 xs.length c0] 69))) := (Old.refl w).alloc _
  have BA : Hid (Bk (w.alloc (.cells #[.int .i64 N, .int .i64 T, .int .i64 E, .slice a0 xs.length c0] 69)) w.heap.size #[.int .i64 N, .int .i64 T, .int .i64 E, .slice a0 xs.length c0] 69) := Bk.new' w _ _ rfl
  have K1 : ∀ W, Old w W → Calls Tryd.prog 100 #[.agg #[.int .i64 N, .slice a0 xs.length c0]] W fun e w' => e = .returned (.bool (spB N xs)) ∧ Old W w' := fun W g => impl_goodSpace N xs _ W (hP.old g) (hT.old g) (hv.old g) hf hl
  have K5 := fun W => isNoise_any E W
  have HM : Hid (spB N xs = true → (∀ W, Old w W → Calls Tryd.prog 110 #[.slice a0 xs.length c0] W fun e w' => e = .returned (.int .i64 (mnK xs (xs.length - 1))) ∧ w' = W) ∧ decide (T < mnK xs (xs.length - 1)) = belB T xs 0) := fun hs => by
    have h1 := (bas_at (sp_ring hs).2.1).1
    exact ⟨fun W g => min_any xs _ W (hv.old g) (by omega) hl, mnK_bel xs T (by omega)⟩
  clear hv hxv hf
  unfold prB
  generalize spB N xs = s1 at *
  generalize inQ E 1 16 = s5 at *
  by_cases h4 : xs.length ≤ 4
  case neg =>
    have d4 : decide ((4 : Int) < (xs.length : Int)) = true := decide_eq_true (by omega)
    have e4 : Hid (decide (xs.length ≤ 4) = false) := decide_eq_false h4
    clear K1 K5 h4
    go_enter Tryd.func41, Tryd.ntmps41
    go_wp2_with fail
    go_ret
    exact ⟨by rw [e4.out]; simp, HA.out⟩
  have d4 : decide ((4 : Int) < (xs.length : Int)) = false := decide_eq_false (by omega)
  have e4 : Hid (decide (xs.length ≤ 4) = true) := decide_eq_true h4
  cases s1
  · clear K5
    go_enter Tryd.func41, Tryd.ntmps41
    go_wp2_with fail
    refine (spaceOf_any N T E a0 xs.length c0 _).mono ?_
    rintro e w1 ⟨rfl, g1⟩
    have HG1 : Hid (Old w w1) := Old.trans HA.out g1
    have B1 : Hid (Bk w1 w.heap.size #[.int .i64 N, .int .i64 T, .int .i64 E, .slice a0 xs.length c0] 69) := BA.out.old g1
    clear g1
    go_wp2_with fail
    refine (K1 _ HG1.out).mono ?_
    rintro e w2 ⟨rfl, g2⟩
    have HG2 : Hid (Old w w2) := Old.trans HG1.out g2
    have B2 : Hid (Bk w2 w.heap.size #[.int .i64 N, .int .i64 T, .int .i64 E, .slice a0 xs.length c0] 69) := B1.out.old g2
    clear g2
    have z1 := B2.out.c (i := 1) rfl
    have z2 := B2.out.c (i := 2) rfl
    have z3 := B2.out.c (i := 3) rfl
    go_wp2_with fail
    go_ret
    exact ⟨rfl, HG2.out⟩
  obtain ⟨KM, EM⟩ := HM.out rfl
  clear HM
  cases s5
  · go_enter Tryd.func41, Tryd.ntmps41
    go_wp2_with fail
    refine (spaceOf_any N T E a0 xs.length c0 _).mono ?_
    rintro e w1 ⟨rfl, g1⟩
    have HG1 : Hid (Old w w1) := Old.trans HA.out g1
    have B1 : Hid (Bk w1 w.heap.size #[.int .i64 N, .int .i64 T, .int .i64 E, .slice a0 xs.length c0] 69) := BA.out.old g1
    clear g1
    go_wp2_with fail
    refine (K1 _ HG1.out).mono ?_
    rintro e w2 ⟨rfl, g2⟩
    have HG2 : Hid (Old w w2) := Old.trans HG1.out g2
    have B2 : Hid (Bk w2 w.heap.size #[.int .i64 N, .int .i64 T, .int .i64 E, .slice a0 xs.length c0] 69) := B1.out.old g2
    clear g2
    have z1 := B2.out.c (i := 1) rfl
    have z2 := B2.out.c (i := 2) rfl
    have z3 := B2.out.c (i := 3) rfl
    go_wp2_with fail
    refine (K5 _).mono ?_
    rintro e w4 ⟨rfl, hw⟩
    obtain rfl : w2 = w4 := hw.symm
    clear hw
    go_wp2_with fail
    go_ret
    exact ⟨by rw [e4.out]; simp, HG2.out⟩
  cases hd1 : decide (2 ≤ T)
  · have e1 : Hid (inQ T 2 65536 = false) := by show _ = _; unfold inQ; rw [hd1]; rfl
    clear EM KM
    go_enter Tryd.func41, Tryd.ntmps41
    go_wp2_with fail
    refine (spaceOf_any N T E a0 xs.length c0 _).mono ?_
    rintro e w1 ⟨rfl, g1⟩
    have HG1 : Hid (Old w w1) := Old.trans HA.out g1
    have B1 : Hid (Bk w1 w.heap.size #[.int .i64 N, .int .i64 T, .int .i64 E, .slice a0 xs.length c0] 69) := BA.out.old g1
    clear g1
    go_wp2_with fail
    refine (K1 _ HG1.out).mono ?_
    rintro e w2 ⟨rfl, g2⟩
    have HG2 : Hid (Old w w2) := Old.trans HG1.out g2
    have B2 : Hid (Bk w2 w.heap.size #[.int .i64 N, .int .i64 T, .int .i64 E, .slice a0 xs.length c0] 69) := B1.out.old g2
    clear g2
    have z1 := B2.out.c (i := 1) rfl
    have z2 := B2.out.c (i := 2) rfl
    have z3 := B2.out.c (i := 3) rfl
    go_wp2_with fail
    refine (K5 _).mono ?_
    rintro e w4 ⟨rfl, hw⟩
    obtain rfl : w2 = w4 := hw.symm
    clear hw
    go_wp2_with fail
    go_quiet (fail)
    go_wp2_with fail
    go_ret
    exact ⟨by rw [e4.out, e1.out]; rfl, (HG2.out.drewN _)⟩
  cases hd2 : decide (T ≤ 65536)
  · have e1 : Hid (inQ T 2 65536 = false) := by show _ = _; unfold inQ; rw [hd1, hd2]; rfl
    clear EM KM
    go_enter Tryd.func41, Tryd.ntmps41
    go_wp2_with fail
    refine (spaceOf_any N T E a0 xs.length c0 _).mono ?_
    rintro e w1 ⟨rfl, g1⟩
    have HG1 : Hid (Old w w1) := Old.trans HA.out g1
    have B1 : Hid (Bk w1 w.heap.size #[.int .i64 N, .int .i64 T, .int .i64 E, .slice a0 xs.length c0] 69) := BA.out.old g1
    clear g1
    go_wp2_with fail
    refine (K1 _ HG1.out).mono ?_
    rintro e w2 ⟨rfl, g2⟩
    have HG2 : Hid (Old w w2) := Old.trans HG1.out g2
    have B2 : Hid (Bk w2 w.heap.size #[.int .i64 N, .int .i64 T, .int .i64 E, .slice a0 xs.length c0] 69) := B1.out.old g2
    clear g2
    have z1 := B2.out.c (i := 1) rfl
    have z2 := B2.out.c (i := 2) rfl
    have z3 := B2.out.c (i := 3) rfl
    go_wp2_with fail
    refine (K5 _).mono ?_
    rintro e w4 ⟨rfl, hw⟩
    obtain rfl : w2 = w4 := hw.symm
    clear hw
    go_wp2_with fail
    go_quiet (fail)
    go_wp2_with fail
    go_ret
    exact ⟨by rw [e4.out, e1.out]; rfl, (HG2.out.drewN _)⟩
  have e1 : Hid (inQ T 2 65536 = true) := by show _ = _; unfold inQ; rw [hd1, hd2]; rfl
  have e2 : Hid ((true && (decide (xs.length ≤ 4) && (inQ T 2 65536 && (true && belB T xs 0)))) = decide (T < mnK xs (xs.length - 1))) := by show _ = _; rw [e4.out, e1.out, EM]; rfl
  clear EM
  generalize mnK xs (xs.length - 1) = mm at *
  go_enter Tryd.func41, Tryd.ntmps41
  go_wp2_with fail
  refine (spaceOf_any N T E a0 xs.length c0 _).mono ?_
  rintro e w1 ⟨rfl, g1⟩
  have HG1 : Hid (Old w w1) := Old.trans HA.out g1
  have B1 : Hid (Bk w1 w.heap.size #[.int .i64 N, .int .i64 T, .int .i64 E, .slice a0 xs.length c0] 69) := BA.out.old g1
  clear g1
  go_wp2_with fail
  refine (K1 _ HG1.out).mono ?_
  rintro e w2 ⟨rfl, g2⟩
  have HG2 : Hid (Old w w2) := Old.trans HG1.out g2
  have B2 : Hid (Bk w2 w.heap.size #[.int .i64 N, .int .i64 T, .int .i64 E, .slice a0 xs.length c0] 69) := B1.out.old g2
  clear g2
  have z1 := B2.out.c (i := 1) rfl
  have z2 := B2.out.c (i := 2) rfl
  have z3 := B2.out.c (i := 3) rfl
  go_wp2_with fail
  refine (K5 _).mono ?_
  rintro e w4 ⟨rfl, hw⟩
  obtain rfl : w2 = w4 := hw.symm
  clear hw
  go_wp2_with fail
  go_quiet (first | (go_at_call 110; refine Calls.quiet_of_same (KM _ (HG2.out.drewN _))) | fail)
  go_wp2_with fail
  go_ret
  exact ⟨by rw [e2.out]; rfl, (HG2.out.drewN _)⟩
end Go.Proofs.YtfgooclnohnkmaaDoor
/- Proved: what model and program tell of small polynomials (areWithin, l8List) and of secrets (GoodSecret). -/
namespace Go.Proofs.YtfgooclnohnkmaaDoor
open Go.ChangeShapes Go.WideShapes Go.ChangeAt Go.RowKit
set_option linter.unusedVariables false
set_option linter.unusedSimpArgs false
set_option maxRecDepth 100000 in
set_option maxHeartbeats 2000000 in
theorem areWithin_any (n : Int) (m : Int) (ss : List Int) (v : Value) (w : World) (hv : Row w v ss) (hl : ss.length ≤ 9223372036854775807) (hm : 0 ≤ m) (hm' : m ≤ 9223372036854775807) :
    Calls Tryd.prog 117 #[v, .int .i64 n, .int .i64 m] w fun e w' => e = .returned (.bool (wiB n m ss)) ∧ w' = w := by
  have hneg : IntKind.i64.wrap (-m) = -m := by rw [IntKind.wrap_i64]; omega
  obtain ⟨a0, c0, ev⟩ := hv.slice
  subst ev
  have HV : Hid (Row w (.slice a0 ss.length c0) ss) := hv
  clear hv
  by_cases hn : (ss.length : Int) = n
  case neg =>
    have d0 : ((ss.length : Int) != n) = true := by simpa using hn
    have HE : Hid (wiB n m ss = false) := by show _ = _; unfold wiB; rw [decide_eq_false hn]; rfl
    clear hn
    go_enter Tryd.func117, Tryd.ntmps117
    go_wp2_with fail
    go_ret
    exact ⟨ret_bb HE.out.symm, rfl⟩
  have d0 : ((ss.length : Int) != n) = false := by simpa using hn
  have HE : Hid (wiB n m ss = winB m ss 0) := by show _ = _; unfold wiB; rw [decide_eq_true hn]; rfl
  generalize wiB n m ss = R at *
  clear hn
  go_enter Tryd.func117, Tryd.ntmps117
  go_wp2_with fail
  go_loopw [15, 8] (fun i x W => ∃ k : Nat, k ≤ ss.length ∧ i = .int .i64 k ∧ Hid (R = winB m ss k) ∧ W = w) (fun i _ _ => ss.length - (intOf i).toNat)
  case atStart => exact ⟨0, by omega, rfl, HE.out, rfl⟩
  case round =>
    obtain ⟨k, hk, rfl, H1, hW⟩ := hrel
    subst hW
    by_cases hlt : k < ss.length
    · have d1 : decide ((k : Int) < (ss.length : Int)) = true := decide_eq_true (by omega)
      rcases HV.out with ⟨a, cap, e, e2⟩ | ⟨b, o, cap, e, hb2, h3, hc⟩
      · subst e2
        simp at hlt
      simp only [Value.slice.injEq, true_and] at e
      obtain ⟨rfl, rfl⟩ := e
      have c2 := hc k hlt
      by_cases ht : -m ≤ ss.getD k 0 ∧ ss.getD k 0 ≤ m
      · have H2 : Hid (R = winB m ss (k + 1)) := H1.out.trans (winB_yes ht)
        clear hc H1
        generalize ss.getD k 0 = y at *
        have d2 : decide (y < -m) = false := decide_eq_false (by omega)
        have d3 : decide (m < y) = false := decide_eq_false (by omega)
        clear ht
        go_wp2_with fail
        exact ⟨⟨k + 1, by omega, by go_num, H2, by first | rfl | trivial⟩, by simp [intOf]; omega⟩
      · have H2 : Hid (R = false) := H1.out.trans (winB_no hlt ht)
        clear hc H1
        generalize ss.getD k 0 = y at *
        by_cases h5 : y < -m
        · have d2 : decide (y < -m) = true := decide_eq_true h5
          clear ht
          go_wp2_with fail
          go_ret
          exact ⟨ret_bb H2.out.symm, rfl⟩
        · have d2 : decide (y < -m) = false := decide_eq_false h5
          have d3 : decide (m < y) = true := decide_eq_true (by omega)
          clear ht
          go_wp2_with fail
          go_ret
          exact ⟨ret_bb H2.out.symm, rfl⟩
    · have d1 : decide ((k : Int) < (ss.length : Int)) = false := decide_eq_false (by omega)
      have H2 : Hid (R = true) := H1.out.trans (winB_end (by omega))
      go_wp2_with fail
      go_ret
      exact ⟨ret_bb H2.out.symm, rfl⟩
set_option maxRecDepth 100000 in
set_option maxHeartbeats 2000000 in
theorem l8List_any (N T E : Int) (ap : Option Addr) (lp cp : Nat) (m : Int) (ss : List Int) (v : Value) (w : World) (hv : Row w v ss) (hl : ss.length ≤ 9223372036854775807) (hm : 0 ≤ m) (hm' : m ≤ 9223372036854775807) :
    Calls Tryd.prog 116 #[.agg #[.int .i64 N, .int .i64 T, .int .i64 E, .slice ap lp cp], v, .int .i64 m] w fun e w' => e = .returned (.bool (wiB N m ss)) ∧ Old w w' := by
  have hneg : IntKind.i64.wrap (-m) = -m := by rw [IntKind.wrap_i64]; omega
  have HA : Hid (Old w (w.alloc (.cells #[.int .i64 N, .int .i64 T, .int .i64 E, .slice ap lp cp] 69))) := (Old.refl w).alloc _
  obtain ⟨a0, c0, ev⟩ := hv.slice
  subst ev
  have HV : Hid (Row (w.alloc (.cells #[.int .i64 N, .int .i64 T, .int .i64 E, .slice ap lp cp] 69)) (.slice a0 ss.length c0) ss) := hv.old HA.out
  clear hv
  by_cases hn : (ss.length : Int) = N
  case neg =>
    have d0 : ((ss.length : Int) != N) = true := by simpa using hn
    have HE : Hid (wiB N m ss = false) := by show _ = _; unfold wiB; rw [decide_eq_false hn]; rfl
    clear hn
    go_enter Tryd.func116, Tryd.ntmps116
    go_wp2_with fail
    go_ret
    exact ⟨ret_bb HE.out.symm, HA.out⟩
  have d0 : ((ss.length : Int) != N) = false := by simpa using hn
  have HE : Hid (wiB N m ss = winB m ss 0) := by show _ = _; unfold wiB; rw [decide_eq_true hn]; rfl
  generalize wiB N m ss = R at *
  clear hn
  go_enter Tryd.func116, Tryd.ntmps116
  go_wp2_with fail
  go_loopw [16, 8] (fun i x W => ∃ k : Nat, k ≤ ss.length ∧ i = .int .i64 k ∧ Hid (R = winB m ss k) ∧ W = (w.alloc (.cells #[.int .i64 N, .int .i64 T, .int .i64 E, .slice ap lp cp] 69))) (fun i _ _ => ss.length - (intOf i).toNat)
  case atStart => exact ⟨0, by omega, rfl, HE.out, rfl⟩
  case round =>
    obtain ⟨k, hk, rfl, H1, hW⟩ := hrel
    subst hW
    by_cases hlt : k < ss.length
    · have d1 : decide ((k : Int) < (ss.length : Int)) = true := decide_eq_true (by omega)
      rcases HV.out with ⟨a, cap, e, e2⟩ | ⟨b, o, cap, e, hb2, h3, hc⟩
      · subst e2
        simp at hlt
      simp only [Value.slice.injEq, true_and] at e
      obtain ⟨rfl, rfl⟩ := e
      have c2 := hc k hlt
      by_cases ht : -m ≤ ss.getD k 0 ∧ ss.getD k 0 ≤ m
      · have H2 : Hid (R = winB m ss (k + 1)) := H1.out.trans (winB_yes ht)
        clear hc H1
        generalize ss.getD k 0 = y at *
        have hin : Hid (inQ y (-m) m = true) := by show _ = _; unfold inQ; rw [decide_eq_true ht.1, decide_eq_true ht.2]; rfl
        have KI : ∀ W, Calls Tryd.prog 76 #[.int .i64 y, .int .i64 (-m), .int .i64 m] W fun e w' => e = .returned (.bool true) ∧ w' = W := fun W => by rw [← hin.out]; exact in_any y (-m) m W
        clear ht
        go_wp2_with fail
        refine (KI _).mono ?_
        rintro e w1 ⟨rfl, hw⟩
        obtain rfl := hw.symm
        clear hw
        go_wp2_with fail
        exact ⟨⟨k + 1, by omega, by go_num, H2, by first | rfl | trivial⟩, by simp [intOf]; omega⟩
      · have H2 : Hid (R = false) := H1.out.trans (winB_no hlt ht)
        clear hc H1
        generalize ss.getD k 0 = y at *
        have hin : Hid (inQ y (-m) m = false) := by
          show _ = _
          cases hh : inQ y (-m) m
          · rfl
          · exfalso
            unfold inQ at hh
            simp at hh
            exact ht hh
        have KI : ∀ W, Calls Tryd.prog 76 #[.int .i64 y, .int .i64 (-m), .int .i64 m] W fun e w' => e = .returned (.bool false) ∧ w' = W := fun W => by rw [← hin.out]; exact in_any y (-m) m W
        clear ht
        go_wp2_with fail
        refine (KI _).mono ?_
        rintro e w1 ⟨rfl, hw⟩
        obtain rfl := hw.symm
        clear hw
        go_wp2_with fail
        go_ret
        exact ⟨ret_bb H2.out.symm, HA.out⟩
    · have d1 : decide ((k : Int) < (ss.length : Int)) = false := decide_eq_false (by omega)
      have H2 : Hid (R = true) := H1.out.trans (winB_end (by omega))
      go_wp2_with fail
      go_ret
      exact ⟨ret_bb H2.out.symm, HA.out⟩
set_option maxRecDepth 100000 in
set_option maxHeartbeats 2000000 in
theorem spec_goodSecret (N T E : Int) (xs ss : List Int) (v u : Value) (w : World) (hv : Row w v xs) (hf : Fit v) (hu : Row w u ss) (hl : xs.length ≤ 9223372036854775807) (hs : ss.length ≤ 9223372036854775807) (hx : ∀ x ∈ xs, -9223372036854775808 ≤ x ∧ x ≤ 9223372036854775807) :
    Calls Tryd.prog 47 #[.agg #[.int .i64 N, .int .i64 T, .int .i64 E, v], u] w fun e w' => e = .returned (.bool (prB N T E xs && wiB N 1 ss)) ∧ Old w w' := by
  have hxv : Row w v xs := hv
  obtain ⟨a0, c0, rfl⟩ := hv.slice
  obtain ⟨a1, c1, eu⟩ := hu.slice
  subst eu
  have HA : Hid (Old w (w.alloc (.cells #[.int .i64 N, .int .i64 T, .int .i64 E, .slice a0 xs.length c0] 69))) := (Old.refl w).alloc _
  have BA : Hid (Bk (w.alloc (.cells #[.int .i64 N, .int .i64 T, .int .i64 E, .slice a0 xs.length c0] 69)) w.heap.size #[.int .i64 N, .int .i64 T, .int .i64 E, .slice a0 xs.length c0] 69) := Bk.new' w _ _ rfl
  have K1 : ∀ W, Old w W → Calls Tryd.prog 39 #[.agg #[.int .i64 N, .int .i64 T, .int .i64 E, .slice a0 xs.length c0]] W fun e w' => e = .returned (.bool (prB N T E xs)) ∧ Old W w' := fun W g => spec_goodParams N T E xs _ W (hv.old g) hf hl hx
  have K2 : ∀ W, Old w W → Calls Tryd.prog 116 #[.agg #[.int .i64 N, .int .i64 T, .int .i64 E, .slice a0 xs.length c0], .slice a1 ss.length c1, .int .i64 1] W fun e w' => e = .returned (.bool (wiB N 1 ss)) ∧ Old W w' := fun W g => l8List_any N T E a0 xs.length c0 1 ss _ W (hu.old g) hs (by omega) (by omega)
  clear hv hxv hf hu
  generalize prB N T E xs = s1 at *
  generalize wiB N 1 ss = s2 at *
  cases s1
  · clear K2
    go_enter Tryd.func47, Tryd.ntmps47
    go_wp2_with fail
    refine (K1 _ HA.out).mono ?_
    rintro e w1 ⟨rfl, g1⟩
    have HG1 : Hid (Old w w1) := Old.trans HA.out g1
    clear g1
    go_wp2_with fail
    go_ret
    exact ⟨rfl, HG1.out⟩
  · go_enter Tryd.func47, Tryd.ntmps47
    go_wp2_with fail
    refine (K1 _ HA.out).mono ?_
    rintro e w1 ⟨rfl, g1⟩
    have HG1 : Hid (Old w w1) := Old.trans HA.out g1
    have B1 : Hid (Bk w1 w.heap.size #[.int .i64 N, .int .i64 T, .int .i64 E, .slice a0 xs.length c0] 69) := BA.out.old g1
    clear g1
    have z0 := B1.out.c (i := 0) rfl
    have z1 := B1.out.c (i := 1) rfl
    have z2 := B1.out.c (i := 2) rfl
    have z3 := B1.out.c (i := 3) rfl
    go_wp2_with fail
    refine (K2 _ HG1.out).mono ?_
    rintro e w2 ⟨rfl, g2⟩
    have HG2 : Hid (Old w w2) := Old.trans HG1.out g2
    clear g2 z0 z1 z2 z3
    go_wp2_with fail
    go_ret
    exact ⟨by simp, HG2.out⟩
set_option maxRecDepth 100000 in
set_option maxHeartbeats 2000000 in
theorem impl_goodSecret (N T E : Int) (xs ss : List Int) (v u : Value) (w : World) (hP : PrsW w) (hT : TabW w) (hv : Row w v xs) (hf : Fit v) (hu : Row w u ss) (hl : xs.length ≤ 9223372036854775807) (hs : ss.length ≤ 9223372036854775807) :
    Calls Tryd.prog 48 #[.agg #[.int .i64 N, .int .i64 T, .int .i64 E, v], u] w fun e w' => e = .returned (.bool (prB N T E xs && wiB N 1 ss)) ∧ Old w w' := by
  have hxv : Row w v xs := hv
  obtain ⟨a0, c0, rfl⟩ := hv.slice
  obtain ⟨a1, c1, eu⟩ := hu.slice
  subst eu
  have HA : Hid (Old w (w.alloc (.cells #[.int .i64 N, .int .i64 T, .int .i64 E, .slice a0 xs.length c0] 69))) := (Old.refl w).alloc _
  have BA : Hid (Bk (w.alloc (.cells #[.int .i64 N, .int .i64 T, .int .i64 E, .slice a0 xs.length c0] 69)) w.heap.size #[.int .i64 N, .int .i64 T, .int .i64 E, .slice a0 xs.length c0] 69) := Bk.new' w _ _ rfl
  have K1 : ∀ W, Old w W → Calls Tryd.prog 41 #[.agg #[.int .i64 N, .int .i64 T, .int .i64 E, .slice a0 xs.length c0]] W fun e w' => e = .returned (.bool (prB N T E xs)) ∧ Old W w' := fun W g => impl_goodParams N T E xs _ W (hP.old g) (hT.old g) (hv.old g) hf hl
  have K2 : ∀ W, Old w W → Calls Tryd.prog 117 #[.slice a1 ss.length c1, .int .i64 N, .int .i64 1] W fun e w' => e = .returned (.bool (wiB N 1 ss)) ∧ Old W w' := fun W g => (areWithin_any N 1 ss _ W (hu.old g) hs (by omega) (by omega)).mono (fun e w' h => ⟨h.1, by rw [h.2]; exact Old.refl _⟩)
  clear hv hxv hf hu
  generalize prB N T E xs = s1 at *
  generalize wiB N 1 ss = s2 at *
  cases s1
  · clear K2
    go_enter Tryd.func48, Tryd.ntmps48
    go_wp2_with fail
    refine (K1 _ HA.out).mono ?_
    rintro e w1 ⟨rfl, g1⟩
    have HG1 : Hid (Old w w1) := Old.trans HA.out g1
    clear g1
    go_wp2_with fail
    go_ret
    exact ⟨rfl, HG1.out⟩
  · go_enter Tryd.func48, Tryd.ntmps48
    go_wp2_with fail
    refine (K1 _ HA.out).mono ?_
    rintro e w1 ⟨rfl, g1⟩
    have HG1 : Hid (Old w w1) := Old.trans HA.out g1
    have B1 : Hid (Bk w1 w.heap.size #[.int .i64 N, .int .i64 T, .int .i64 E, .slice a0 xs.length c0] 69) := BA.out.old g1
    clear g1
    have z0 := B1.out.c (i := 0) rfl
    have z1 := B1.out.c (i := 1) rfl
    have z2 := B1.out.c (i := 2) rfl
    have z3 := B1.out.c (i := 3) rfl
    go_wp2_with fail
    refine (K2 _ HG1.out).mono ?_
    rintro e w2 ⟨rfl, g2⟩
    have HG2 : Hid (Old w w2) := Old.trans HG1.out g2
    clear g2 z0 z1 z2 z3
    go_wp2_with fail
    go_ret
    exact ⟨by simp, HG2.out⟩
end Go.Proofs.YtfgooclnohnkmaaDoor
