/- Proved: several texts in one: what each proves is said ahead of it. -/
import Derived.Test.YtakleianimcmdaaDoorZ25
import Derived.Test.YtakleianimcmdaaDoorZ15
import Derived.Test.YtakleianimcmdaaDoorZ02
import Derived.Test.YtakleianimcmdaaDoorZ00
import Derived.Test.YtakleianimcmdaaDoorZ12
import Derived.Deep.RegionWith
import Derived.Deep.RegionHeld3
import Derived.Deep.DeepCutAuto
import Derived.Test.YtakleianimcmdaaDoorZ13
import Derived.Lib.Hide
import Derived.Test.YtakleianimcmdaaDoorLawSizeOf
/- Proved: SizeOf of the program and of the model, as a function of the numbers. -/
namespace Go.Proofs.YtakleianimcmdaaDoor
open Go.ChangeShapes Go.WideShapes Go.ChangeAt Go.RowKit
set_option linter.unusedVariables false
set_option linter.unusedSimpArgs false
def szB (k p : Int) : Bool := decide (1 ≤ k ∧ k ≤ 6) && (if k = 3 then decide (2 ≤ p ∧ p ≤ 3) else decide (p = 0))
def szC (N : Int) (l : Nat) (k p : Int) : Int := if k = 2 then N * 3 else if k = 4 then N else if k = 3 then p * ((l : Int) * N * 4) + 2 else if k = 5 then 2 * ((l : Int) * N * 4) else if k = 6 then (l : Int) * 2 * ((l : Int) * N * 4) else 0
theorem szB_kind {k p : Int} (h : szB k p = true) : k = 1 ∨ k = 2 ∨ k = 3 ∨ k = 4 ∨ k = 5 ∨ k = 6 := by
  unfold szB at h
  rw [Bool.and_eq_true] at h
  have := of_decide_eq_true h.1
  omega
theorem szB_three {p : Int} (h : szB 3 p = true) : 2 ≤ p ∧ p ≤ 3 := by
  unfold szB at h
  rw [Bool.and_eq_true, if_pos rfl] at h
  exact of_decide_eq_true h.2
theorem szB_not {k p : Int} (h : szB k p = true) (hk : k ≠ 3) : p = 0 := by
  unfold szB at h
  rw [Bool.and_eq_true, if_neg hk] at h
  exact of_decide_eq_true h.2
theorem may_any (k m : Int) (w : World) (B : Bool) (hB : (if k = 3 then decide (2 ≤ m ∧ m ≤ 3) else decide (m = 0)) = B) : Calls Tryd.prog 21 #[.int .i64 k, .int .i64 m] w fun e w' => e = .returned (.bool B) ∧ w' = w := by
  by_cases hk : k = 3
  · subst hk
    exact mayParts_c m w B (by rw [← hB, if_pos rfl])
  · exact mayParts_o k m w B hk (by rw [← hB, if_neg hk])
theorem content_any (N T E : Int) (a3 : Option Addr) (l3 c3 : Nat) (a4 : Option Addr) (l4 c4 : Nat) (a6 : Option Addr) (l6 c6 : Nat) (k p : Int) (w : World) (hl : l3 ≤ 4) (hN : 2 ≤ N ∧ N ≤ 16) (hb : szB k p = true) :
    Calls Tryd.prog 23 #[.agg #[.int .i64 N, .int .i64 T, .int .i64 E, .slice a3 l3 c3, .slice a4 l4 c4, .bool false, .slice a6 l6 c6], .int .i64 k, .int .i64 p] w fun e w' => e = .returned (.int .i64 (szC N l3 k p)) ∧ Old w w' := by
  rcases szB_kind hb with rfl | rfl | rfl | rfl | rfl | rfl
  · exact contentSize_1 N T E a3 l3 c3 a4 l4 c4 a6 l6 c6 p w hl hN
  · exact contentSize_2 N T E a3 l3 c3 a4 l4 c4 a6 l6 c6 p w hl hN
  · exact contentSize_3 N T E a3 l3 c3 a4 l4 c4 a6 l6 c6 p (szB_three hb) w hl hN
  · exact contentSize_4 N T E a3 l3 c3 a4 l4 c4 a6 l6 c6 p w hl hN
  · exact contentSize_5 N T E a3 l3 c3 a4 l4 c4 a6 l6 c6 p w hl hN
  · exact contentSize_6 N T E a3 l3 c3 a4 l4 c4 a6 l6 c6 p w hl hN
theorem szC_bd {N : Int} {l : Nat} {k p : Int} (hl : l ≤ 4) (hN : 2 ≤ N ∧ N ≤ 16) (hb : szB k p = true) : 0 ≤ szC N l k p ∧ szC N l k p ≤ 1000000 := by
  have m0 : 0 ≤ (l : Int) * N ∧ (l : Int) * N ≤ 64 := ⟨Int.mul_nonneg (by omega) (by omega), by
    have := Int.mul_le_mul (show (l : Int) ≤ 4 by omega) hN.2 (by omega) (by omega)
    omega⟩
  unfold szC
  obtain ⟨q, hq⟩ : ∃ q, (l : Int) * N = q := ⟨_, rfl⟩
  rw [hq] at m0 ⊢
  have m2 : 0 ≤ (l : Int) * 2 * (q * 4) ∧ (l : Int) * 2 * (q * 4) ≤ 2048 := ⟨Int.mul_nonneg (by omega) (by omega), by
    have := Int.mul_le_mul (show (l : Int) * 2 ≤ 8 by omega) (show q * 4 ≤ 256 by omega) (by omega) (by omega)
    omega⟩
  rcases szB_kind hb with rfl | rfl | rfl | rfl | rfl | rfl
  · simp
  · simp; omega
  · have hp := szB_three hb
    have m1 : 0 ≤ p * (q * 4) ∧ p * (q * 4) ≤ 768 := ⟨Int.mul_nonneg (by omega) (by omega), by
      have := Int.mul_le_mul hp.2 (show q * 4 ≤ 256 by omega) (by omega) (by omega)
      omega⟩
    simp
    omega
  · simp; omega
  · simp; omega
  · simp; omega
theorem prB_bd {N T E : Int} {xs : List Int} (h : prB N T E xs = true) : xs.length ≤ 4 ∧ 2 ≤ N ∧ N ≤ 16 := by
  have h' := h
  unfold prB inQ at h'
  simp only [Bool.and_eq_true, decide_eq_true_eq] at h'
  obtain ⟨hs, h4, _⟩ := h'
  obtain ⟨hz, hbb, _⟩ := sp_ring hs
  omega
set_option maxRecDepth 100000 in
set_option maxHeartbeats 4000000 in
theorem impl_SizeOf (N T E : Int) (xs : List Int) (v : Value) (w : World) (k p R : Int) (ok : Bool) (hP : PrsW w) (hT : TabW w) (hv : Row w v xs) (hf : Fit v) (hl : xs.length ≤ 9223372036854775807)
    (hy : (prB N T E xs && szB k p) = true → R = 11 + 4 * (xs.length : Int) + szC N xs.length k p ∧ ok = true) (hn : (prB N T E xs && szB k p) = false → R = 0 ∧ ok = false) :
    Calls Tryd.prog 8 #[.agg #[.int .i64 N, .int .i64 T, .int .i64 E, v], .int .i64 k, .int .i64 p] w fun e w' => e = .returned (.tuple #[.int .i64 R, .bool ok]) ∧ Old w w' := by
  have HY := Lib.hid hy
  have HNN := Lib.hid hn
  obtain ⟨Rf, hRf⟩ := Rings_roots N xs
  have K1 := fun W (g : Old w W) => impl_reckonerOf N T E xs Rf v W (hP.old g) (hT.old g) (hv.old g) hf hl hRf
  obtain ⟨a0, c0, ev⟩ := hv.slice
  subst ev
  have HA : Hid (Old w (w.alloc (.cells #[.int .i64 N, .int .i64 T, .int .i64 E, .slice a0 xs.length c0] 28))) := (Old.refl w).alloc _
  clear hv hf hP hT hRf hy hn
  go_enter Tryd.func8, Tryd.ntmps8
  go_wp2_with fail
  refine (K1 _ HA.out).mono ?_
  rintro e w1 ⟨g1, h⟩
  have HG1 : Hid (Old w w1) := Old.trans HA.out g1
  clear g1 K1 HA
  rcases h with ⟨hB, rfl⟩ | ⟨hB, g, a, l, c, hg, rfl, hr, hps⟩
  · obtain ⟨rfl, rfl⟩ := HNN.out (by rw [hB]; rfl)
    have HG2 : Hid (Old w (w1.alloc (.cells rk0 49))) := HG1.out.alloc _
    clear hB HY HNN HG1
    go_wp2_with fail
    refine bodyPost_ret (v := .tuple #[.int .i64 0, .bool false]) (by simp [results, Tryd.results8, go_sem]) rfl ?_
    exact ⟨rfl, HG2.out⟩
  have hbd := prB_bd hB
  have HBP : Hid (prB N T E xs = true) := hB
  have HG2 : Hid (Old w (w1.alloc (.cells #[.int .i64 N, .int .i64 T, .int .i64 E, .slice a0 xs.length c0, .slice (some ⟨g, 0, none⟩) xs.length xs.length, .bool false, .slice a l c] 49))) := HG1.out.alloc _
  have B2 : Hid (Bk (w1.alloc (.cells #[.int .i64 N, .int .i64 T, .int .i64 E, .slice a0 xs.length c0, .slice (some ⟨g, 0, none⟩) xs.length xs.length, .bool false, .slice a l c] 49)) w1.heap.size #[.int .i64 N, .int .i64 T, .int .i64 E, .slice a0 xs.length c0, .slice (some ⟨g, 0, none⟩) xs.length xs.length, .bool false, .slice a l c] 49) := Bk.new' w1 _ _ rfl
  clear hr hps hB HG1 hg
  obtain ⟨bk, hbk⟩ : ∃ bk, decide (1 ≤ k ∧ k ≤ 6) = bk := ⟨_, rfl⟩
  obtain ⟨bp, hbp⟩ : ∃ bp, (if k = 3 then decide (2 ≤ p ∧ p ≤ 3) else decide (p = 0)) = bp := ⟨_, rfl⟩
  have HSB : Hid (szB k p = (bk && bp)) := by show _ = _; unfold szB; rw [hbk, hbp]
  have KI := fun W => isKind_any k W bk hbk
  have KP := fun W => may_any k p W bp hbp
  clear hbk hbp
  cases bk
  · obtain ⟨rfl, rfl⟩ := HNN.out (by rw [HBP.out, HSB.out]; rfl)
    go_wp2_with (go_at_call 20; refine (KI _).mono ?_; rintro e w2 ⟨rfl, rfl⟩)
    refine bodyPost_ret (v := .tuple #[.int .i64 0, .bool false]) (by simp [results, Tryd.results8, go_sem]) rfl ?_
    exact ⟨rfl, HG2.out⟩
  cases bp
  · obtain ⟨rfl, rfl⟩ := HNN.out (by rw [HBP.out, HSB.out]; rfl)
    go_wp2_with (first | (go_at_call 20; refine (KI _).mono ?_; rintro e w2 ⟨rfl, rfl⟩) | (go_at_call 21; refine (KP _).mono ?_; rintro e w3 ⟨rfl, rfl⟩))
    refine bodyPost_ret (v := .tuple #[.int .i64 0, .bool false]) (by simp [results, Tryd.results8, go_sem]) rfl ?_
    exact ⟨rfl, HG2.out⟩
  obtain ⟨hR, rfl⟩ := HY.out (by rw [HBP.out, HSB.out]; rfl)
  have KH := fun W => headSize_any N T E a0 xs.length c0 (some ⟨g, 0, none⟩) xs.length xs.length a l c W hbd.1
  have KC := fun W => content_any N T E a0 xs.length c0 (some ⟨g, 0, none⟩) xs.length xs.length a l c k p W hbd.1 ⟨hbd.2.1, hbd.2.2⟩ HSB.out
  have hcb := szC_bd hbd.1 ⟨hbd.2.1, hbd.2.2⟩ HSB.out
  obtain ⟨cs, hcs⟩ : ∃ cs, szC N xs.length k p = cs := ⟨_, rfl⟩
  obtain ⟨hs, hhs⟩ : ∃ hs, 11 + 4 * (xs.length : Int) = hs := ⟨_, rfl⟩
  have hhb : 0 ≤ hs ∧ hs ≤ 1000000 := by omega
  rw [hcs] at KC hcb hR
  rw [hhs] at KH hR
  have HRR : Hid (hs + cs = R) := hR.symm
  have HBB : Hid (0 ≤ hs ∧ hs ≤ 1000000 ∧ 0 ≤ cs ∧ cs ≤ 1000000) := ⟨hhb.1, hhb.2, hcb.1, hcb.2⟩
  have HKH := Lib.hid KH
  have HKC := Lib.hid KC
  clear hR hcs hhs hhb hcb KH KC HSB HY HNN HBP hbd
  go_wp2_with (first | (go_at_call 20; refine (KI _).mono ?_; rintro e w2 ⟨rfl, rfl⟩) | (go_at_call 21; refine (KP _).mono ?_; rintro e w3 ⟨rfl, rfl⟩))
  refine reg_Zo _ N T E a0 xs.length c0 (some ⟨g, 0, none⟩) xs.length xs.length a l c w1.heap.size k p hs cs R B2.out HRR.out HBB.out (fun W _ => HKH.out W) (fun W _ => HKC.out W) _ _ ?_ ?_ ?_ ?_ ?_
  iterate 4 (· exact rfl)
  intro us W q h7 h8
  simp only [putAll, Act.put, slotZo, List.range, List.range.loop, List.map_cons, List.map_nil, List.getD_cons_zero, List.getD_cons_succ, List.setIfInBounds_toArray, List.set_cons_succ, List.set_cons_zero]
  simp only [h7, h8]
  have HO : Hid (Old w W) := Old.trans HG2.out q
  clear q h7 h8 HKH HKC HRR HBB KI KP B2 HG2
  go_wp2_with fail
  refine bodyPost_ret (v := .tuple #[.int .i64 R, .bool true]) (by simp [results, Tryd.results8, go_sem]) rfl ?_
  exact ⟨rfl, HO.out⟩
set_option maxRecDepth 100000 in
set_option maxHeartbeats 4000000 in
theorem spec_SizeOf_no (N T E : Int) (a0 : Option Addr) (l0 c0 : Nat) (w : World) (k p : Int) (bg : Bool) (KB : ∀ W, Old w W → Calls Tryd.prog 16 #[.agg #[.int .i64 N, .int .i64 T, .int .i64 E, .slice a0 l0 c0]] W fun e w' => e = .returned (.bool bg) ∧ Old W w') (hno : (bg && szB k p) = false) :
    Calls Tryd.prog 6 #[.agg #[.int .i64 N, .int .i64 T, .int .i64 E, .slice a0 l0 c0], .int .i64 k, .int .i64 p] w fun e w' => e = .returned (.tuple #[.int .i64 0, .bool false]) ∧ Old w w' := by
  have HA : Hid (Old w (w.alloc (.cells #[.int .i64 N, .int .i64 T, .int .i64 E, .slice a0 l0 c0] 28))) := (Old.refl w).alloc _
  have KI := fun (x lo hi : Int) W => in_any x lo hi W
  have HNO := Lib.hid hno
  clear hno
  cases bg with
  | false =>
    clear HNO
    go_enter Tryd.func6, Tryd.ntmps6
    go_wp2_with fail
    refine (KB _ HA.out).mono ?_
    rintro e w1 ⟨rfl, g1⟩
    have HG1 : Hid (Old w w1) := Old.trans HA.out g1
    clear g1
    go_wp2_with fail
    refine bodyPost_ret (v := .tuple #[.int .i64 0, .bool false]) (by simp [results, Tryd.results6, go_sem]) rfl ?_
    exact ⟨rfl, HG1.out⟩
  | true =>
    have hb : szB k p = false := by simpa using HNO.out
    clear HNO
    by_cases hk : 1 ≤ k ∧ k ≤ 6
    · have i1 : inQ k 1 6 = true := by unfold inQ; rw [decide_eq_true hk.1, decide_eq_true hk.2]; rfl
      by_cases h3 : k = 3
      · subst h3
        have i2 : inQ p 2 3 = false := by
          have : ¬ (2 ≤ p ∧ p ≤ 3) := fun hh => by
            unfold szB at hb
            rw [decide_eq_true hk, if_pos rfl, decide_eq_true hh] at hb
            cases hb
          unfold inQ
          by_cases h2 : (2 : Int) ≤ p
          · rw [decide_eq_true h2, decide_eq_false (show ¬ p ≤ 3 by omega)]; rfl
          · rw [decide_eq_false h2]; rfl
        have K6 := fun W => in_any 3 1 6 W
        have K3 := fun W => in_any p 2 3 W
        rw [i1] at K6
        rw [i2] at K3
        clear hb hk i1 i2 KI
        go_enter Tryd.func6, Tryd.ntmps6
        go_wp2_with fail
        refine (KB _ HA.out).mono ?_
        rintro e w1 ⟨rfl, g1⟩
        have HG1 : Hid (Old w w1) := Old.trans HA.out g1
        clear g1
        go_wp2_with fail
        refine (K6 _).mono ?_
        rintro e w2 ⟨rfl, rfl⟩
        go_wp2_with fail
        refine (K3 _).mono ?_
        rintro e w2 ⟨rfl, rfl⟩
        go_wp2_with fail
        refine bodyPost_ret (v := .tuple #[.int .i64 0, .bool false]) (by simp [results, Tryd.results6, go_sem]) rfl ?_
        exact ⟨rfl, HG1.out⟩
      · have hp : p ≠ 0 := fun hh => by
          unfold szB at hb
          rw [decide_eq_true hk, if_neg h3, decide_eq_true hh] at hb
          cases hb
        have K6 := fun W => in_any k 1 6 W
        rw [i1] at K6
        have d1 : (k == 3) = false := by rw [beq_eq_false_iff_ne]; exact h3
        have d2 : (k != 3) = true := by simp [h3]
        have d3 : (p != 0) = true := by simp [hp]
        have d4 : (p == 0) = false := by rw [beq_eq_false_iff_ne]; exact hp
        clear hb hk i1 KI
        go_enter Tryd.func6, Tryd.ntmps6
        go_wp2_with fail
        refine (KB _ HA.out).mono ?_
        rintro e w1 ⟨rfl, g1⟩
        have HG1 : Hid (Old w w1) := Old.trans HA.out g1
        clear g1
        go_wp2_with fail
        refine (K6 _).mono ?_
        rintro e w2 ⟨rfl, rfl⟩
        go_wp2_with fail
        refine bodyPost_ret (v := .tuple #[.int .i64 0, .bool false]) (by simp [results, Tryd.results6, go_sem]) rfl ?_
        exact ⟨rfl, HG1.out⟩
    · have i1 : inQ k 1 6 = false := by
        unfold inQ
        by_cases h2 : (1 : Int) ≤ k
        · rw [decide_eq_true h2, decide_eq_false (show ¬ k ≤ 6 by omega)]; rfl
        · rw [decide_eq_false h2]; rfl
      have K6 := fun W => in_any k 1 6 W
      rw [i1] at K6
      clear hb hk i1 KI
      go_enter Tryd.func6, Tryd.ntmps6
      go_wp2_with fail
      refine (KB _ HA.out).mono ?_
      rintro e w1 ⟨rfl, g1⟩
      have HG1 : Hid (Old w w1) := Old.trans HA.out g1
      clear g1
      go_wp2_with fail
      refine (K6 _).mono ?_
      rintro e w2 ⟨rfl, rfl⟩
      go_wp2_with fail
      refine bodyPost_ret (v := .tuple #[.int .i64 0, .bool false]) (by simp [results, Tryd.results6, go_sem]) rfl ?_
      exact ⟨rfl, HG1.out⟩
set_option maxRecDepth 100000 in
set_option maxHeartbeats 4000000 in
theorem spec_SizeOf_1 (N T E : Int) (a0 : Option Addr) (l0 c0 : Nat) (w : World) (R : Int) (hl : l0 ≤ 4) (hN : 2 ≤ N ∧ N ≤ 16)  (hR : R = 11 + 4 * (l0 : Int) + (0)) (KB : ∀ W, Old w W → Calls Tryd.prog 16 #[.agg #[.int .i64 N, .int .i64 T, .int .i64 E, .slice a0 l0 c0]] W fun e w' => e = .returned (.bool true) ∧ Old W w') :
    Calls Tryd.prog 6 #[.agg #[.int .i64 N, .int .i64 T, .int .i64 E, .slice a0 l0 c0], .int .i64 1, .int .i64 0] w fun e w' => e = .returned (.tuple #[.int .i64 R, .bool true]) ∧ Old w w' := by
  have HA : Hid (Old w (w.alloc (.cells #[.int .i64 N, .int .i64 T, .int .i64 E, .slice a0 l0 c0] 28))) := (Old.refl w).alloc _
  have BA : Hid (Bk (w.alloc (.cells #[.int .i64 N, .int .i64 T, .int .i64 E, .slice a0 l0 c0] 28)) w.heap.size #[.int .i64 N, .int .i64 T, .int .i64 E, .slice a0 l0 c0] 28) := Bk.new' w _ _ rfl
  have K6 := fun W => in_any 1 1 6 W
  rw [show inQ 1 1 6 = true by decide] at K6
  have m0 : 0 ≤ (l0 : Int) * N ∧ (l0 : Int) * N ≤ 64 := ⟨Int.mul_nonneg (by omega) (by omega), by
    have := Int.mul_le_mul (show (l0 : Int) ≤ 4 by omega) hN.2 (by omega) (by omega)
    omega⟩
  obtain ⟨q, hq⟩ : ∃ q, (l0 : Int) * N = q := ⟨_, rfl⟩
  have e4 : 4 * (l0 : Int) * N = 4 * q := by rw [Int.mul_assoc, hq]
  rw [hq] at m0
  try rw [hq] at hR
  have HR := Lib.hid hR
  clear hR
  go_enter Tryd.func6, Tryd.ntmps6
  go_wp2_with fail
  refine (KB _ HA.out).mono ?_
  rintro e w1 ⟨rfl, g1⟩
  have HG1 : Hid (Old w w1) := Old.trans HA.out g1
  have B1 : Hid (Bk w1 w.heap.size #[.int .i64 N, .int .i64 T, .int .i64 E, .slice a0 l0 c0] 28) := BA.out.old g1
  have z0 := B1.out.c (i := 0) rfl
  have z3 := B1.out.c (i := 3) rfl
  clear g1
  go_wp2_with fail
  refine (K6 _).mono ?_
  rintro e w2 ⟨rfl, rfl⟩
  go_wp2_with fail
  refine bodyPost_ret (v := .tuple #[.int .i64 R, .bool true]) (by have := HR.out; simp [results, Tryd.results6, go_sem]; omega) rfl ?_
  exact ⟨rfl, HG1.out⟩
set_option maxRecDepth 100000 in
set_option maxHeartbeats 4000000 in
theorem spec_SizeOf_2 (N T E : Int) (a0 : Option Addr) (l0 c0 : Nat) (w : World) (R : Int) (hl : l0 ≤ 4) (hN : 2 ≤ N ∧ N ≤ 16)  (hR : R = 11 + 4 * (l0 : Int) + (N * 3)) (KB : ∀ W, Old w W → Calls Tryd.prog 16 #[.agg #[.int .i64 N, .int .i64 T, .int .i64 E, .slice a0 l0 c0]] W fun e w' => e = .returned (.bool true) ∧ Old W w') :
    Calls Tryd.prog 6 #[.agg #[.int .i64 N, .int .i64 T, .int .i64 E, .slice a0 l0 c0], .int .i64 2, .int .i64 0] w fun e w' => e = .returned (.tuple #[.int .i64 R, .bool true]) ∧ Old w w' := by
  have HA : Hid (Old w (w.alloc (.cells #[.int .i64 N, .int .i64 T, .int .i64 E, .slice a0 l0 c0] 28))) := (Old.refl w).alloc _
  have BA : Hid (Bk (w.alloc (.cells #[.int .i64 N, .int .i64 T, .int .i64 E, .slice a0 l0 c0] 28)) w.heap.size #[.int .i64 N, .int .i64 T, .int .i64 E, .slice a0 l0 c0] 28) := Bk.new' w _ _ rfl
  have K6 := fun W => in_any 2 1 6 W
  rw [show inQ 2 1 6 = true by decide] at K6
  have m0 : 0 ≤ (l0 : Int) * N ∧ (l0 : Int) * N ≤ 64 := ⟨Int.mul_nonneg (by omega) (by omega), by
    have := Int.mul_le_mul (show (l0 : Int) ≤ 4 by omega) hN.2 (by omega) (by omega)
    omega⟩
  obtain ⟨q, hq⟩ : ∃ q, (l0 : Int) * N = q := ⟨_, rfl⟩
  have e4 : 4 * (l0 : Int) * N = 4 * q := by rw [Int.mul_assoc, hq]
  rw [hq] at m0
  try rw [hq] at hR
  have HR := Lib.hid hR
  clear hR
  go_enter Tryd.func6, Tryd.ntmps6
  go_wp2_with fail
  refine (KB _ HA.out).mono ?_
  rintro e w1 ⟨rfl, g1⟩
  have HG1 : Hid (Old w w1) := Old.trans HA.out g1
  have B1 : Hid (Bk w1 w.heap.size #[.int .i64 N, .int .i64 T, .int .i64 E, .slice a0 l0 c0] 28) := BA.out.old g1
  have z0 := B1.out.c (i := 0) rfl
  have z3 := B1.out.c (i := 3) rfl
  clear g1
  go_wp2_with fail
  refine (K6 _).mono ?_
  rintro e w2 ⟨rfl, rfl⟩
  go_wp2_with fail
  refine bodyPost_ret (v := .tuple #[.int .i64 R, .bool true]) (by have := HR.out; simp [results, Tryd.results6, go_sem]; omega) rfl ?_
  exact ⟨rfl, HG1.out⟩
set_option maxRecDepth 100000 in
set_option maxHeartbeats 4000000 in
theorem spec_SizeOf_3 (N T E : Int) (a0 : Option Addr) (l0 c0 : Nat) (w : World) (p : Int) (R : Int) (hl : l0 ≤ 4) (hN : 2 ≤ N ∧ N ≤ 16) (hp : 2 ≤ p ∧ p ≤ 3) (hR : R = 11 + 4 * (l0 : Int) + (p * ((l0 : Int) * N * 4) + 2)) (KB : ∀ W, Old w W → Calls Tryd.prog 16 #[.agg #[.int .i64 N, .int .i64 T, .int .i64 E, .slice a0 l0 c0]] W fun e w' => e = .returned (.bool true) ∧ Old W w') :
    Calls Tryd.prog 6 #[.agg #[.int .i64 N, .int .i64 T, .int .i64 E, .slice a0 l0 c0], .int .i64 3, .int .i64 p] w fun e w' => e = .returned (.tuple #[.int .i64 R, .bool true]) ∧ Old w w' := by
  have HA : Hid (Old w (w.alloc (.cells #[.int .i64 N, .int .i64 T, .int .i64 E, .slice a0 l0 c0] 28))) := (Old.refl w).alloc _
  have BA : Hid (Bk (w.alloc (.cells #[.int .i64 N, .int .i64 T, .int .i64 E, .slice a0 l0 c0] 28)) w.heap.size #[.int .i64 N, .int .i64 T, .int .i64 E, .slice a0 l0 c0] 28) := Bk.new' w _ _ rfl
  have K6 := fun W => in_any 3 1 6 W
  rw [show inQ 3 1 6 = true by decide] at K6
  have K3 := fun W => in_any p 2 3 W
  rw [show inQ p 2 3 = true by unfold inQ; rw [decide_eq_true hp.1, decide_eq_true hp.2]; rfl] at K3
  have m0 : 0 ≤ (l0 : Int) * N ∧ (l0 : Int) * N ≤ 64 := ⟨Int.mul_nonneg (by omega) (by omega), by
    have := Int.mul_le_mul (show (l0 : Int) ≤ 4 by omega) hN.2 (by omega) (by omega)
    omega⟩
  obtain ⟨q, hq⟩ : ∃ q, (l0 : Int) * N = q := ⟨_, rfl⟩
  have e4 : 4 * (l0 : Int) * N = 4 * q := by rw [Int.mul_assoc, hq]
  rw [hq] at m0
  try rw [hq] at hR
  have m1 : 0 ≤ p * (4 * q) ∧ p * (4 * q) ≤ 768 := ⟨Int.mul_nonneg (by omega) (by omega), by
    have := Int.mul_le_mul hp.2 (show 4 * q ≤ 256 by omega) (by omega) (by omega)
    omega⟩
  have e5 : p * (q * 4) = p * (4 * q) := by rw [Int.mul_comm q 4]
  obtain ⟨r, hr⟩ : ∃ r, p * (4 * q) = r := ⟨_, rfl⟩
  rw [e5, hr] at hR
  rw [hr] at m1
  have HR := Lib.hid hR
  clear hR
  go_enter Tryd.func6, Tryd.ntmps6
  go_wp2_with fail
  refine (KB _ HA.out).mono ?_
  rintro e w1 ⟨rfl, g1⟩
  have HG1 : Hid (Old w w1) := Old.trans HA.out g1
  have B1 : Hid (Bk w1 w.heap.size #[.int .i64 N, .int .i64 T, .int .i64 E, .slice a0 l0 c0] 28) := BA.out.old g1
  have z0 := B1.out.c (i := 0) rfl
  have z3 := B1.out.c (i := 3) rfl
  clear g1
  go_wp2_with fail
  refine (K6 _).mono ?_
  rintro e w2 ⟨rfl, rfl⟩
  go_wp2_with fail
  refine (K3 _).mono ?_
  rintro e w2 ⟨rfl, rfl⟩
  go_wp2_with fail
  refine bodyPost_ret (v := .tuple #[.int .i64 R, .bool true]) (by have := HR.out; simp [results, Tryd.results6, go_sem]; omega) rfl ?_
  exact ⟨rfl, HG1.out⟩
set_option maxRecDepth 100000 in
set_option maxHeartbeats 4000000 in
theorem spec_SizeOf_4 (N T E : Int) (a0 : Option Addr) (l0 c0 : Nat) (w : World) (R : Int) (hl : l0 ≤ 4) (hN : 2 ≤ N ∧ N ≤ 16)  (hR : R = 11 + 4 * (l0 : Int) + (N)) (KB : ∀ W, Old w W → Calls Tryd.prog 16 #[.agg #[.int .i64 N, .int .i64 T, .int .i64 E, .slice a0 l0 c0]] W fun e w' => e = .returned (.bool true) ∧ Old W w') :
    Calls Tryd.prog 6 #[.agg #[.int .i64 N, .int .i64 T, .int .i64 E, .slice a0 l0 c0], .int .i64 4, .int .i64 0] w fun e w' => e = .returned (.tuple #[.int .i64 R, .bool true]) ∧ Old w w' := by
  have HA : Hid (Old w (w.alloc (.cells #[.int .i64 N, .int .i64 T, .int .i64 E, .slice a0 l0 c0] 28))) := (Old.refl w).alloc _
  have BA : Hid (Bk (w.alloc (.cells #[.int .i64 N, .int .i64 T, .int .i64 E, .slice a0 l0 c0] 28)) w.heap.size #[.int .i64 N, .int .i64 T, .int .i64 E, .slice a0 l0 c0] 28) := Bk.new' w _ _ rfl
  have K6 := fun W => in_any 4 1 6 W
  rw [show inQ 4 1 6 = true by decide] at K6
  have m0 : 0 ≤ (l0 : Int) * N ∧ (l0 : Int) * N ≤ 64 := ⟨Int.mul_nonneg (by omega) (by omega), by
    have := Int.mul_le_mul (show (l0 : Int) ≤ 4 by omega) hN.2 (by omega) (by omega)
    omega⟩
  obtain ⟨q, hq⟩ : ∃ q, (l0 : Int) * N = q := ⟨_, rfl⟩
  have e4 : 4 * (l0 : Int) * N = 4 * q := by rw [Int.mul_assoc, hq]
  rw [hq] at m0
  try rw [hq] at hR
  have HR := Lib.hid hR
  clear hR
  go_enter Tryd.func6, Tryd.ntmps6
  go_wp2_with fail
  refine (KB _ HA.out).mono ?_
  rintro e w1 ⟨rfl, g1⟩
  have HG1 : Hid (Old w w1) := Old.trans HA.out g1
  have B1 : Hid (Bk w1 w.heap.size #[.int .i64 N, .int .i64 T, .int .i64 E, .slice a0 l0 c0] 28) := BA.out.old g1
  have z0 := B1.out.c (i := 0) rfl
  have z3 := B1.out.c (i := 3) rfl
  clear g1
  go_wp2_with fail
  refine (K6 _).mono ?_
  rintro e w2 ⟨rfl, rfl⟩
  go_wp2_with fail
  refine bodyPost_ret (v := .tuple #[.int .i64 R, .bool true]) (by have := HR.out; simp [results, Tryd.results6, go_sem]; omega) rfl ?_
  exact ⟨rfl, HG1.out⟩
set_option maxRecDepth 100000 in
set_option maxHeartbeats 4000000 in
theorem spec_SizeOf_5 (N T E : Int) (a0 : Option Addr) (l0 c0 : Nat) (w : World) (R : Int) (hl : l0 ≤ 4) (hN : 2 ≤ N ∧ N ≤ 16)  (hR : R = 11 + 4 * (l0 : Int) + (2 * ((l0 : Int) * N * 4))) (KB : ∀ W, Old w W → Calls Tryd.prog 16 #[.agg #[.int .i64 N, .int .i64 T, .int .i64 E, .slice a0 l0 c0]] W fun e w' => e = .returned (.bool true) ∧ Old W w') :
    Calls Tryd.prog 6 #[.agg #[.int .i64 N, .int .i64 T, .int .i64 E, .slice a0 l0 c0], .int .i64 5, .int .i64 0] w fun e w' => e = .returned (.tuple #[.int .i64 R, .bool true]) ∧ Old w w' := by
  have HA : Hid (Old w (w.alloc (.cells #[.int .i64 N, .int .i64 T, .int .i64 E, .slice a0 l0 c0] 28))) := (Old.refl w).alloc _
  have BA : Hid (Bk (w.alloc (.cells #[.int .i64 N, .int .i64 T, .int .i64 E, .slice a0 l0 c0] 28)) w.heap.size #[.int .i64 N, .int .i64 T, .int .i64 E, .slice a0 l0 c0] 28) := Bk.new' w _ _ rfl
  have K6 := fun W => in_any 5 1 6 W
  rw [show inQ 5 1 6 = true by decide] at K6
  have m0 : 0 ≤ (l0 : Int) * N ∧ (l0 : Int) * N ≤ 64 := ⟨Int.mul_nonneg (by omega) (by omega), by
    have := Int.mul_le_mul (show (l0 : Int) ≤ 4 by omega) hN.2 (by omega) (by omega)
    omega⟩
  obtain ⟨q, hq⟩ : ∃ q, (l0 : Int) * N = q := ⟨_, rfl⟩
  have e4 : 4 * (l0 : Int) * N = 4 * q := by rw [Int.mul_assoc, hq]
  rw [hq] at m0
  try rw [hq] at hR
  have HR := Lib.hid hR
  clear hR
  go_enter Tryd.func6, Tryd.ntmps6
  go_wp2_with fail
  refine (KB _ HA.out).mono ?_
  rintro e w1 ⟨rfl, g1⟩
  have HG1 : Hid (Old w w1) := Old.trans HA.out g1
  have B1 : Hid (Bk w1 w.heap.size #[.int .i64 N, .int .i64 T, .int .i64 E, .slice a0 l0 c0] 28) := BA.out.old g1
  have z0 := B1.out.c (i := 0) rfl
  have z3 := B1.out.c (i := 3) rfl
  clear g1
  go_wp2_with fail
  refine (K6 _).mono ?_
  rintro e w2 ⟨rfl, rfl⟩
  go_wp2_with fail
  refine bodyPost_ret (v := .tuple #[.int .i64 R, .bool true]) (by have := HR.out; simp [results, Tryd.results6, go_sem]; omega) rfl ?_
  exact ⟨rfl, HG1.out⟩
set_option maxRecDepth 100000 in
set_option maxHeartbeats 4000000 in
theorem spec_SizeOf_6 (N T E : Int) (a0 : Option Addr) (l0 c0 : Nat) (w : World) (R : Int) (hl : l0 ≤ 4) (hN : 2 ≤ N ∧ N ≤ 16)  (hR : R = 11 + 4 * (l0 : Int) + ((l0 : Int) * 2 * ((l0 : Int) * N * 4))) (KB : ∀ W, Old w W → Calls Tryd.prog 16 #[.agg #[.int .i64 N, .int .i64 T, .int .i64 E, .slice a0 l0 c0]] W fun e w' => e = .returned (.bool true) ∧ Old W w') :
    Calls Tryd.prog 6 #[.agg #[.int .i64 N, .int .i64 T, .int .i64 E, .slice a0 l0 c0], .int .i64 6, .int .i64 0] w fun e w' => e = .returned (.tuple #[.int .i64 R, .bool true]) ∧ Old w w' := by
  have HA : Hid (Old w (w.alloc (.cells #[.int .i64 N, .int .i64 T, .int .i64 E, .slice a0 l0 c0] 28))) := (Old.refl w).alloc _
  have BA : Hid (Bk (w.alloc (.cells #[.int .i64 N, .int .i64 T, .int .i64 E, .slice a0 l0 c0] 28)) w.heap.size #[.int .i64 N, .int .i64 T, .int .i64 E, .slice a0 l0 c0] 28) := Bk.new' w _ _ rfl
  have K6 := fun W => in_any 6 1 6 W
  rw [show inQ 6 1 6 = true by decide] at K6
  have m0 : 0 ≤ (l0 : Int) * N ∧ (l0 : Int) * N ≤ 64 := ⟨Int.mul_nonneg (by omega) (by omega), by
    have := Int.mul_le_mul (show (l0 : Int) ≤ 4 by omega) hN.2 (by omega) (by omega)
    omega⟩
  obtain ⟨q, hq⟩ : ∃ q, (l0 : Int) * N = q := ⟨_, rfl⟩
  have e4 : 4 * (l0 : Int) * N = 4 * q := by rw [Int.mul_assoc, hq]
  rw [hq] at m0
  try rw [hq] at hR
  have m1 : 0 ≤ 2 * (l0 : Int) * (4 * q) ∧ 2 * (l0 : Int) * (4 * q) ≤ 2048 := ⟨Int.mul_nonneg (by omega) (by omega), by
    have := Int.mul_le_mul (show 2 * (l0 : Int) ≤ 8 by omega) (show 4 * q ≤ 256 by omega) (by omega) (by omega)
    omega⟩
  have e5 : (l0 : Int) * 2 * (q * 4) = 2 * (l0 : Int) * (4 * q) := by rw [Int.mul_comm q 4, Int.mul_comm (l0 : Int) 2]
  obtain ⟨r, hr⟩ : ∃ r, 2 * (l0 : Int) * (4 * q) = r := ⟨_, rfl⟩
  rw [e5, hr] at hR
  rw [hr] at m1
  have HR := Lib.hid hR
  clear hR
  go_enter Tryd.func6, Tryd.ntmps6
  go_wp2_with fail
  refine (KB _ HA.out).mono ?_
  rintro e w1 ⟨rfl, g1⟩
  have HG1 : Hid (Old w w1) := Old.trans HA.out g1
  have B1 : Hid (Bk w1 w.heap.size #[.int .i64 N, .int .i64 T, .int .i64 E, .slice a0 l0 c0] 28) := BA.out.old g1
  have z0 := B1.out.c (i := 0) rfl
  have z3 := B1.out.c (i := 3) rfl
  clear g1
  go_wp2_with fail
  refine (K6 _).mono ?_
  rintro e w2 ⟨rfl, rfl⟩
  go_wp2_with fail
  refine bodyPost_ret (v := .tuple #[.int .i64 R, .bool true]) (by have := HR.out; simp [results, Tryd.results6, go_sem]; omega) rfl ?_
  exact ⟨rfl, HG1.out⟩
end Go.Proofs.YtakleianimcmdaaDoor
/- Proved: the statement on SizeOf at every argument, in a world in which the two tables are laid. -/
namespace Go.Proofs.YtakleianimcmdaaDoor
open Go.ChangeShapes Go.WideShapes Go.ChangeAt Go.RowKit
set_option linter.unusedVariables false
set_option linter.unusedSimpArgs false
theorem SizeOf_any (N T E : Int) (xs : List Int) (k p : Int) (v : Value) (w : World) (hv : Row w v xs) (hl : xs.length ≤ 9223372036854775807) (hx : ∀ x ∈ xs, -9223372036854775808 ≤ x ∧ x ≤ 9223372036854775807) (hP : PrsW w) (hT : TabW w) :
    Calls Tryd.prog 3 #[.agg #[.int .i64 N, .int .i64 T, .int .i64 E, v], .int .i64 k, .int .i64 p] w fun e w' => e = .returned (.bool true) ∧ Old w w' := by
  obtain ⟨a0, c0, rfl⟩ := hv.slice
  obtain ⟨R, ok, hy, hn⟩ : ∃ (R : Int) (ok : Bool), ((prB N T E xs && szB k p) = true → R = 11 + 4 * (xs.length : Int) + szC N xs.length k p ∧ ok = true) ∧ ((prB N T E xs && szB k p) = false → R = 0 ∧ ok = false) := by
    cases h : (prB N T E xs && szB k p)
    · exact ⟨0, false, (fun h => by cases h), (fun _ => ⟨rfl, rfl⟩)⟩
    · exact ⟨_, true, (fun _ => ⟨rfl, rfl⟩), (fun h => by cases h)⟩
  refine law9_SizeOf w N T E xs.length a0 c0 k p R ok (leftN 1048576 xs.length)
    (fun W g => kp_sz N T E a0 xs.length c0 1048576 W hl (by omega) (by omega))
    (XP N T E xs) (far_XP N T E xs) shape_XP (fun h0 W g => kp_to N T E xs _ W (hv.old g) (by obtain ⟨q1, q2, q3⟩ := leftN_ok h0 (by omega); omega)) (fun h0 W lo hi g lo' hi' g' k k' => kp_eq N T E xs W lo hi g lo' hi' g' k k' (by obtain ⟨q1, q2, q3⟩ := leftN_ok h0 (by omega); omega))
    (fun h0 W lo hi g kk q => ?_) (fun h0 W lo hi g kk q => ?_)
  · obtain ⟨a, c, rfl, o, f⟩ := kk
    have KB := fun W' (q' : Old W W') => spec_goodParams N T E xs _ W' (o.row.old q') f hl hx
    cases hB : (prB N T E xs && szB k p)
    · obtain ⟨rfl, rfl⟩ := hn hB
      exact spec_SizeOf_no N T E a xs.length c W k p _ KB hB
    · obtain ⟨hR, rfl⟩ := hy hB
      rw [Bool.and_eq_true] at hB
      obtain ⟨b1, b2, b3⟩ := prB_bd hB.1
      rw [hB.1] at KB
      rcases szB_kind hB.2 with rfl | rfl | rfl | rfl | rfl | rfl
      · obtain rfl := szB_not hB.2 (by decide)
        exact spec_SizeOf_1 N T E a xs.length c W R b1 ⟨b2, b3⟩ hR KB
      · obtain rfl := szB_not hB.2 (by decide)
        exact spec_SizeOf_2 N T E a xs.length c W R b1 ⟨b2, b3⟩ hR KB
      · exact spec_SizeOf_3 N T E a xs.length c W p R b1 ⟨b2, b3⟩ (szB_three hB.2) hR KB
      · obtain rfl := szB_not hB.2 (by decide)
        exact spec_SizeOf_4 N T E a xs.length c W R b1 ⟨b2, b3⟩ hR KB
      · obtain rfl := szB_not hB.2 (by decide)
        exact spec_SizeOf_5 N T E a xs.length c W R b1 ⟨b2, b3⟩ hR KB
      · obtain rfl := szB_not hB.2 (by decide)
        exact spec_SizeOf_6 N T E a xs.length c W R b1 ⟨b2, b3⟩ hR KB
  · obtain ⟨a, c, rfl, o, f⟩ := kk
    exact impl_SizeOf N T E xs _ W k p R ok (hP.old q) (hT.old q) o.row f hl hy hn
end Go.Proofs.YtakleianimcmdaaDoor
