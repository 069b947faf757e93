/- Proved: several texts in one: what each proves is said ahead of it. -/
import Derived.Test.YtjedpceiimceoaaDoorV02
import Derived.Laws.Strings
import Derived.Laws.Strings2
import Derived.Laws.Strings3
import Derived.KernelRfl
/- Proved: bytes of a string by their places; the program's isNumeral. -/
namespace Go.Proofs.YtjedpceiimceoaaDoor
open Go.ChangeShapes Go.WideShapes Go.ChangeAt Go.RowKit
set_option linter.unusedVariables false
set_option linter.unusedSimpArgs false
def byt (s : ByteArray) (k : Nat) : Nat := if h : k < s.size then (s[k]'h).toNat else 0
theorem byt_lt (s : ByteArray) (k : Nat) : byt s k < 256 := by
  unfold byt
  split
  · exact UInt8.toNat_lt _
  · omega
theorem byt_ix (s : ByteArray) (k : Nat) (h : k < s.size) (w : World) : (Instr.index 9 (.string s) (.int .i64 (k : Int))).run Tryd.prog w = .ok (.int .u8 ((byt s k : Nat) : Int)) w := by
  rw [run_index_string w _ s .i64 k Tryd.underlying9, dif_pos ⟨by omega, by omega⟩]
  unfold byt
  rw [dif_pos h]
  simp
def isDg (n : Nat) : Bool := decide (48 ≤ n) && decide (n ≤ 57)
def allDg (s : ByteArray) : Nat → Bool
  | 0 => true
  | n + 1 => isDg (byt s (s.size - (n + 1))) && allDg s n
def numB (s : ByteArray) : Bool := (decide (0 < s.size) && !((byt s 0 == 48) && decide (1 < s.size))) && allDg s s.size
theorem toList_nil (s : ByteArray) : (s.toList == []) = decide (s.size = 0) := by
  rw [ByteArray.toList_eq]
  cases h : s.data.toList with
  | nil =>
    have : s.size = 0 := by
      show s.data.size = 0
      rw [← Array.length_toList, h]
      rfl
    rw [decide_eq_true this]
    rfl
  | cons x l =>
    have : s.size ≠ 0 := by
      show s.data.size ≠ 0
      rw [← Array.length_toList, h]
      simp
    rw [decide_eq_false this]
    rfl
set_option maxRecDepth 100000 in
set_option maxHeartbeats 4000000 in
theorem isNumeral_any (s : ByteArray) (w : World) (hs : s.size ≤ 9223372036854775807) :
    Calls Tryd.prog 43 #[.string s] w fun e w' => e = .returned (.bool (numB s)) ∧ Old w w' := by
  have hE := toList_nil s
  by_cases h0 : s.size = 0
  · have hN : numB s = false := by
      unfold numB
      rw [decide_eq_false (by omega)]
      rfl
    rw [hN]
    rw [decide_eq_true h0] at hE
    clear h0
    go_enter Tryd.func43, Tryd.ntmps43
    go_wp2_with fail
    go_ret
    exact ⟨rfl, Old.refl _⟩
  · rw [decide_eq_false h0] at hE
    have hI : ∀ W, (Instr.index 9 (.string s) (.int .i64 0)).run Tryd.prog W = .ok (.int .u8 ((byt s 0 : Nat) : Int)) W := fun W => byt_ix s 0 (by omega) W
    obtain ⟨b0, hb0⟩ : ∃ b0, byt s 0 = b0 := ⟨_, rfl⟩
    rw [hb0] at hI
    by_cases h48 : b0 = 48
    · have e0 : ((b0 : Int) == 48) = true := by rw [h48]; rfl
      by_cases h1 : 1 < s.size
      · have hN : numB s = false := by
          unfold numB
          rw [hb0, h48, decide_eq_true h1]
          simp
        have d1 : decide ((1 : Int) < (s.size : Int)) = true := decide_eq_true (by omega)
        rw [hN]
        clear hb0 h48
        go_enter Tryd.func43, Tryd.ntmps43
        go_wp2_with fail
        go_ret
        exact ⟨rfl, Old.refl _⟩
      have HN : Hid (numB s = allDg s s.size) := by
        show _ = _
        unfold numB
        rw [decide_eq_true (show 0 < s.size by omega), decide_eq_false h1, Bool.and_false]
        rfl
      have d0 : decide ((1 : Int) < (s.size : Int)) = false := decide_eq_false (by omega)
      clear hb0 h48 h1
      go_enter Tryd.func43, Tryd.ntmps43
      go_wp2_with fail
      go_loopw [18] (fun i W => ∃ k : Nat, k ≤ s.size ∧ i = .int .i64 (k : Int) ∧ Hid (Old w W) ∧ Hid (allDg s s.size = allDg s (s.size - k))) (fun i _ => s.size - (intOf i).toNat)
      case atStart => exact ⟨0, by omega, rfl, Old.refl _, rfl⟩
      case round =>
        obtain ⟨k, hk, rfl, HG, HD⟩ := hrel
        by_cases hlt : k < s.size
        · have d1 : decide ((k : Int) < (s.size : Int)) = true := decide_eq_true (by omega)
          have hK := fun W => byt_ix s k hlt W
          have hst : allDg s (s.size - k) = (isDg (byt s k) && allDg s (s.size - (k + 1))) := by
            rw [show s.size - k = (s.size - (k + 1)) + 1 by omega]
            show (isDg (byt s (s.size - (s.size - (k + 1) + 1))) && _) = _
            rw [show s.size - (s.size - (k + 1) + 1) = k by omega]
          have hb := byt_lt s k
          have HS : Hid (allDg s s.size = (isDg (byt s k) && allDg s (s.size - (k + 1)))) := HD.out.trans hst
          obtain ⟨b, hbb⟩ : ∃ b, byt s k = b := ⟨_, rfl⟩
          rw [hbb] at hK hb HS
          clear hbb hst HD
          by_cases hb1 : b < 48
          · have HF : Hid (numB s = false) := by
              show numB s = false
              rw [HN.out, HS.out, show isDg b = false by unfold isDg; rw [decide_eq_false (by omega)]; rfl]
              rfl
            have e1 : decide ((b : Int) < 48) = true := decide_eq_true (by omega)
            have n1 : decide (b < 48) = true := decide_eq_true hb1
            clear HS
            go_wp2_with fail
            go_ret
            exact ⟨by rw [HF.out]; rfl, HG.out⟩
          · have e1 : decide ((b : Int) < 48) = false := decide_eq_false (by omega)
            have n1 : decide (b < 48) = false := decide_eq_false hb1
            by_cases hb2 : 57 < b
            · have HF : Hid (numB s = false) := by
                show numB s = false
                rw [HN.out, HS.out, show isDg b = false by unfold isDg; rw [decide_eq_false (show ¬ b ≤ 57 by omega), Bool.and_false]]
                rfl
              have e2 : decide ((57 : Int) < (b : Int)) = true := decide_eq_true (by omega)
              have n2 : decide (57 < b) = true := decide_eq_true hb2
              clear HS
              go_wp2_with fail
              go_ret
              exact ⟨by rw [HF.out]; rfl, HG.out⟩
            · have e2 : decide ((57 : Int) < (b : Int)) = false := decide_eq_false (by omega)
              have HD2 : Hid (allDg s s.size = allDg s (s.size - (k + 1))) := by
                show _ = _
                rw [HS.out, show isDg b = true by unfold isDg; rw [decide_eq_true (show 48 ≤ b by omega), decide_eq_true (show b ≤ 57 by omega)]; rfl, Bool.true_and]
              have n2 : decide (57 < b) = false := decide_eq_false hb2
              clear HS
              go_wp2_with fail
              exact ⟨⟨k + 1, by omega, by go_num, HG, HD2⟩, by simp [intOf]; omega⟩
        · have d1 : decide ((k : Int) < (s.size : Int)) = false := decide_eq_false (by omega)
          have HF : Hid (numB s = true) := by
            show numB s = true
            rw [HN.out, HD.out, show s.size - k = 0 by omega]
            rfl
          have d2 : decide (k < s.size) = false := decide_eq_false hlt
          clear HD
          go_wp2_with fail
          go_ret
          exact ⟨by rw [HF.out]; rfl, HG.out⟩
    · have e0 : ((b0 : Int) == 48) = false := by simp; omega
      have HN : Hid (numB s = allDg s s.size) := by
        show _ = _
        unfold numB
        rw [decide_eq_true (show 0 < s.size by omega), hb0, show (b0 == 48) = false by simpa using h48]
        rfl
      clear hb0 h48
      go_enter Tryd.func43, Tryd.ntmps43
      go_wp2_with fail
      go_loopw [18] (fun i W => ∃ k : Nat, k ≤ s.size ∧ i = .int .i64 (k : Int) ∧ Hid (Old w W) ∧ Hid (allDg s s.size = allDg s (s.size - k))) (fun i _ => s.size - (intOf i).toNat)
      case atStart => exact ⟨0, by omega, rfl, Old.refl _, rfl⟩
      case round =>
        obtain ⟨k, hk, rfl, HG, HD⟩ := hrel
        by_cases hlt : k < s.size
        · have d1 : decide ((k : Int) < (s.size : Int)) = true := decide_eq_true (by omega)
          have hK := fun W => byt_ix s k hlt W
          have hst : allDg s (s.size - k) = (isDg (byt s k) && allDg s (s.size - (k + 1))) := by
            rw [show s.size - k = (s.size - (k + 1)) + 1 by omega]
            show (isDg (byt s (s.size - (s.size - (k + 1) + 1))) && _) = _
            rw [show s.size - (s.size - (k + 1) + 1) = k by omega]
          have hb := byt_lt s k
          have HS : Hid (allDg s s.size = (isDg (byt s k) && allDg s (s.size - (k + 1)))) := HD.out.trans hst
          obtain ⟨b, hbb⟩ : ∃ b, byt s k = b := ⟨_, rfl⟩
          rw [hbb] at hK hb HS
          clear hbb hst HD
          by_cases hb1 : b < 48
          · have HF : Hid (numB s = false) := by
              show numB s = false
              rw [HN.out, HS.out, show isDg b = false by unfold isDg; rw [decide_eq_false (by omega)]; rfl]
              rfl
            have e1 : decide ((b : Int) < 48) = true := decide_eq_true (by omega)
            have n1 : decide (b < 48) = true := decide_eq_true hb1
            clear HS
            go_wp2_with fail
            go_ret
            exact ⟨by rw [HF.out]; rfl, HG.out⟩
          · have e1 : decide ((b : Int) < 48) = false := decide_eq_false (by omega)
            have n1 : decide (b < 48) = false := decide_eq_false hb1
            by_cases hb2 : 57 < b
            · have HF : Hid (numB s = false) := by
                show numB s = false
                rw [HN.out, HS.out, show isDg b = false by unfold isDg; rw [decide_eq_false (show ¬ b ≤ 57 by omega), Bool.and_false]]
                rfl
              have e2 : decide ((57 : Int) < (b : Int)) = true := decide_eq_true (by omega)
              have n2 : decide (57 < b) = true := decide_eq_true hb2
              clear HS
              go_wp2_with fail
              go_ret
              exact ⟨by rw [HF.out]; rfl, HG.out⟩
            · have e2 : decide ((57 : Int) < (b : Int)) = false := decide_eq_false (by omega)
              have HD2 : Hid (allDg s s.size = allDg s (s.size - (k + 1))) := by
                show _ = _
                rw [HS.out, show isDg b = true by unfold isDg; rw [decide_eq_true (show 48 ≤ b by omega), decide_eq_true (show b ≤ 57 by omega)]; rfl, Bool.true_and]
              have n2 : decide (57 < b) = false := decide_eq_false hb2
              clear HS
              go_wp2_with fail
              exact ⟨⟨k + 1, by omega, by go_num, HG, HD2⟩, by simp [intOf]; omega⟩
        · have d1 : decide ((k : Int) < (s.size : Int)) = false := decide_eq_false (by omega)
          have HF : Hid (numB s = true) := by
            show numB s = true
            rw [HN.out, HD.out, show s.size - k = 0 by omega]
            rfl
          have d2 : decide (k < s.size) = false := decide_eq_false hlt
          clear HD
          go_wp2_with fail
          go_ret
          exact ⟨by rw [HF.out]; rfl, HG.out⟩
end Go.Proofs.YtjedpceiimceoaaDoor
/- Proved: a sign ahead of a text, cut off or not: strings.CutPrefix with "-". -/
namespace Go.Proofs.YtjedpceiimceoaaDoor
open Go.ChangeShapes Go.WideShapes Go.ChangeAt Go.RowKit
set_option linter.unusedVariables false
set_option linter.unusedSimpArgs false
def sgB (s : ByteArray) : Bool := decide (0 < s.size) && (byt s 0 == 45)
def dgT (s : ByteArray) : ByteArray := if sgB s then s.extract 1 s.size else s
theorem first_one (s : ByteArray) (h : 0 < s.size) : ((s.extract 0 1).toList == [45]) = (byt s 0 == 45) := by
  have e : (s.extract 0 1).toList = [s[0]'h] := by
    rw [ByteArray.toList_eq]
    have hd : (s.extract 0 1).data = s.data.extract 0 1 := by simp
    rw [hd]
    apply List.ext_getElem
    · simp
      show min 1 s.data.size = 1
      have : 0 < s.data.size := h
      omega
    · intro i h1 h2
      simp at h2
      subst h2
      simp
      rfl
  rw [e]
  unfold byt
  rw [dif_pos h]
  generalize s[0] = x
  by_cases hx : x = 45
  · subst hx
    rfl
  · have h1 : ¬ x.toNat = 45 := fun h => hx (UInt8.toNat_inj.1 h)
    rw [show ([x] == [45]) = false by simpa using hx, show (x.toNat == 45) = false by simpa using h1]
set_option maxRecDepth 100000 in
set_option maxHeartbeats 4000000 in
theorem hasPrefix_c (s : ByteArray) (w : World) (hs : s.size ≤ 9223372036854775807) :
    Calls Tryd.prog 79 #[.string s, .string ⟨#[45]⟩] w fun e w' => e = .returned (.bool (sgB s)) ∧ Old w w' := by
  unfold sgB
  by_cases h : 0 < s.size
  · have hf := first_one s h
    rw [decide_eq_true h, Bool.true_and]
    obtain ⟨b, hb⟩ : ∃ b, (byt s 0 == 45) = b := ⟨_, rfl⟩
    rw [hb] at hf ⊢
    have d1 : decide ((1 : Int) ≤ (s.size : Int)) = true := decide_eq_true (by omega)
    clear hb
    go_enter Tryd.func79, Tryd.ntmps79
    go_wp2_with fail
    go_ret
    exact ⟨rfl, Old.refl _⟩
  · rw [decide_eq_false h, Bool.false_and]
    have d1 : decide ((1 : Int) ≤ (s.size : Int)) = false := decide_eq_false (by omega)
    have h0 : s.size = 0 := by omega
    go_enter Tryd.func79, Tryd.ntmps79
    go_wp2_with fail
    go_ret
    exact ⟨rfl, Old.refl _⟩
set_option maxRecDepth 100000 in
set_option maxHeartbeats 4000000 in
theorem cutPrefix_lite (s : ByteArray) (w : World) (hs : s.size ≤ 9223372036854775807) :
    Calls Tryd.prog 63 #[.string s, .string ⟨#[45]⟩] w fun e w' => e = .returned (.tuple #[.string (dgT s), .bool (sgB s)]) ∧ Old w w' := by
  have K := fun W => hasPrefix_c s W hs
  unfold dgT
  cases hB : sgB s
  · rw [hB] at K
    clear hB
    go_enter Tryd.func63, Tryd.ntmps63
    go_wp2_with fail
    refine (K _).mono ?_
    rintro e w1 ⟨rfl, g1⟩
    have HG : Hid (Old w w1) := g1
    clear g1
    go_wp2_with fail
    refine bodyPost_ret (v := .tuple #[.string s, .bool false]) (by simp [results, Tryd.results63, go_sem]) rfl ?_
    exact ⟨rfl, HG.out⟩
  · rw [hB] at K
    have h0 : 0 < s.size := by
      unfold sgB at hB
      simp only [Bool.and_eq_true, decide_eq_true_eq] at hB
      exact hB.1
    clear hB
    go_enter Tryd.func63, Tryd.ntmps63
    go_wp2_with fail
    refine (K _).mono ?_
    rintro e w1 ⟨rfl, g1⟩
    have HG : Hid (Old w w1) := g1
    have l1 : (1 : Int) ≤ (s.size : Int) := by omega
    clear g1
    go_wp2_with fail
    refine bodyPost_ret (v := .tuple #[.string (s.extract 1 s.size), .bool true]) (by simp [results, Tryd.results63, go_sem]) rfl ?_
    exact ⟨rfl, HG.out⟩
set_option maxRecDepth 100000 in
set_option maxHeartbeats 4000000 in
theorem cutPrefix_c (s : ByteArray) (w : World) (hs : s.size ≤ 9223372036854775807) :
    Calls Tryd.prog 42 #[.string s, .string ⟨#[45]⟩] w fun e w' => e = .returned (.tuple #[.string (dgT s), .bool (sgB s)]) ∧ Old w w' := by
  have K := fun W => cutPrefix_lite s W hs
  generalize dgT s = D at *
  generalize sgB s = g at *
  go_enter Tryd.func42, Tryd.ntmps42
  go_wp2_with fail
  refine (K _).mono ?_
  rintro e w1 ⟨rfl, g1⟩
  have HG : Hid (Old w w1) := g1
  clear g1
  go_wp2_with fail
  refine bodyPost_ret (v := .tuple #[.string D, .bool g]) (by simp [results, Tryd.results42, go_sem]) rfl ?_
  exact ⟨rfl, HG.out⟩
end Go.Proofs.YtjedpceiimceoaaDoor
