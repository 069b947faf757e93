/- Proved: contracts of the tests of chapter 7: whether words are words (areWords, l7Words), and whether one may draw (mayDraw). -/
import Derived.Test.YtonbimgdkafnjaaBackS
import Derived.Test.YtonbimgdkafnjaaBase
import Derived.Test.YtonbimgdkafnjaaPurseB
namespace Go.Proofs.Ytonbimgdkafnjaa
open Go.ChangeShapes Go.WideShapes Go.ChangeAt Go.RowKit
set_option linter.unusedVariables false
set_option linter.unusedSimpArgs false
/-- a word -/
def wd (x : Int) : Bool := decide (0 ≤ x) && decide (x < 4294967296)
/-- every one is a word -/
def wdB (ws : List Int) : Bool := ws.all wd
/-- words: not too many, and each is one -/
def wsB (ws : List Int) : Bool := decide (ws.length ≤ 4000) && wdB ws
theorem wdB_get {ws : List Int} (h : wdB ws = true) (k : Nat) (hk : k < ws.length) : 0 ≤ ws.getD k 0 ∧ ws.getD k 0 < 4294967296 := by
  have := List.all_eq_true.1 h (ws.getD k 0) (by simp [List.getD, hk])
  simpa [wd] using this
theorem wdB_yes {ws : List Int} (h : ∀ k, k < ws.length → wd (ws.getD k 0) = true) : wdB ws = true := by
  refine List.all_eq_true.2 (fun x hx => ?_)
  obtain ⟨k, hk, rfl⟩ := List.getElem_of_mem hx
  have := h k hk
  simpa [List.getD, hk] using this
theorem wdB_no {ws : List Int} (k : Nat) (hk : k < ws.length) (h : wd (ws.getD k 0) = false) : wdB ws = false := by
  refine Bool.eq_false_iff.2 (fun e => ?_)
  have := List.all_eq_true.1 e (ws.getD k 0) (by simp [List.getD, hk])
  rw [h] at this
  cases this
theorem resB_wd (x : Int) : resB x 4294967296 = wd x := rfl
theorem inQ_wd (x : Int) : inQ x 0 4294967295 = wd x := by
  unfold inQ wd
  by_cases h : x ≤ 4294967295
  · rw [decide_eq_true h, decide_eq_true (show x < 4294967296 by omega)]
  · rw [decide_eq_false h, decide_eq_false (show ¬ x < 4294967296 by omega)]
set_option maxRecDepth 100000 in
set_option maxHeartbeats 2000000 in
theorem areWords_any (ws : List Int) (v : Value) (w : World) (h : Row w v ws) (hl : ws.length ≤ 9223372036854775807) :
    Calls Try.prog 88 #[v] w fun e w' => e = .returned (.bool (wsB ws)) ∧ w' = w := by
  by_cases hbig : 4000 < ws.length
  · have hR : wsB ws = false := by simp [wsB]; omega
    rw [hR]
    obtain ⟨a, cap, rfl⟩ := h.slice
    have d1 : decide ((4000 : Int) < (ws.length : Int)) = true := decide_eq_true (by omega)
    clear hR h
    go_enter Try.func88, Try.ntmps88
    go_wp2_with fail
    go_ret
    exact ⟨rfl, rfl⟩
  · have d1 : decide ((4000 : Int) < (ws.length : Int)) = false := decide_eq_false (by omega)
    have HR : Hid (wsB ws = wdB ws) := by show wsB ws = wdB ws; simp [wsB]; omega
    have bl : ws.length ≤ 4000 := by omega
    clear hbig hl
    rcases h with ⟨a, cap, rfl, rfl⟩ | ⟨b, o, cap, rfl, hb, h0, hc⟩
    · go_enter Try.func88, Try.ntmps88
      go_wp2_with fail
      refine wp_loop_rounds 1 ?_
      rw [rounds_succ]
      go_wp2_with fail
      go_ret
      exact ⟨rfl, rfl⟩
    · have HC : Hid (∀ j, j < ws.length → w.cell? ⟨b, o + j, none⟩ = some (.int .i64 (ws.getD j 0))) := hc
      clear hc h0 hb
      go_enter Try.func88, Try.ntmps88
      go_wp2_with fail
      go_loopw [10] (fun i W => ∃ k : Nat, k ≤ ws.length ∧ i = .int .i64 k ∧ W = w ∧ Hid (∀ j, j < k → wd (ws.getD j 0) = true)) (fun i _ => ws.length - (intOf i).toNat)
      case atStart => exact ⟨0, by omega, rfl, rfl, fun j hj => absurd hj (by omega)⟩
      case round =>
        obtain ⟨k, hk, rfl, rfl, HW⟩ := hrel
        by_cases hlt : k < ws.length
        · have dl : decide ((k : Int) < (ws.length : Int)) = true := by simp; omega
          have c1 := HC.out k hlt
          cases hx : wd (ws.getD k 0)
          · have HF : Hid (wdB ws = false) := wdB_no k hlt hx
            have K1 : ∀ W, Calls Try.prog 105 #[.int .i64 (ws.getD k 0), .int .i64 4294967296] W fun e w' => e = .returned (.bool false) ∧ w' = W := fun W => by
              have := residue_any (ws.getD k 0) 4294967296 W
              rw [resB_wd, hx] at this
              exact this
            clear hx HW
            generalize ws.getD k 0 = x at c1 K1
            go_wp2_with fail
            refine (K1 _).mono ?_
            rintro e w' ⟨rfl, rfl⟩
            go_wp2_with fail
            go_ret
            exact ⟨by rw [HR.out, HF.out]; rfl, rfl⟩
          · have HF : Hid (∀ j, j < k + 1 → wd (ws.getD j 0) = true) := fun j hj => by
              rcases Nat.lt_or_ge j k with h1 | h1
              · exact HW.out j h1
              · obtain rfl : j = k := by omega
                exact hx
            have K1 : ∀ W, Calls Try.prog 105 #[.int .i64 (ws.getD k 0), .int .i64 4294967296] W fun e w' => e = .returned (.bool true) ∧ w' = W := fun W => by
              have := residue_any (ws.getD k 0) 4294967296 W
              rw [resB_wd, hx] at this
              exact this
            clear hx HW
            generalize ws.getD k 0 = x at c1 K1
            go_wp2_with fail
            refine (K1 _).mono ?_
            rintro e w' ⟨rfl, hw⟩
            obtain rfl := hw
            go_wp2_with fail
            exact ⟨⟨k + 1, by omega, by go_num, by trivial, HF⟩, by simp [intOf]; omega⟩
        · have dl : decide ((k : Int) < (ws.length : Int)) = false := by simp; omega
          have HF : Hid (wdB ws = true) := wdB_yes (fun j hj => HW.out j (by omega))
          go_wp2_with fail
          go_ret
          exact ⟨by rw [HR.out, HF.out]; rfl, rfl⟩
set_option maxRecDepth 100000 in
set_option maxHeartbeats 2000000 in
theorem l7Words_any (ws : List Int) (v : Value) (at_ : Int) (w : World) (h : Row w v ws) (hl : ws.length ≤ 9223372036854775807) :
    Calls Try.prog 56 #[v, .int .i64 at_] w fun e w' => e = .returned (.bool (wsB ws && inQ at_ 0 ws.length)) ∧ w' = w := by
  by_cases hbig : 4000 < ws.length
  · have hR : wsB ws = false := by simp [wsB]; omega
    rw [hR, Bool.false_and]
    obtain ⟨a, cap, rfl⟩ := h.slice
    have d1 : decide ((4000 : Int) < (ws.length : Int)) = true := decide_eq_true (by omega)
    clear hR h
    go_enter Try.func56, Try.ntmps56
    go_wp2_with fail
    go_ret
    exact ⟨rfl, rfl⟩
  · have d1 : decide ((4000 : Int) < (ws.length : Int)) = false := decide_eq_false (by omega)
    have HR : Hid (wsB ws = wdB ws) := by show wsB ws = wdB ws; simp [wsB]; omega
    have bl : ws.length ≤ 4000 := by omega
    clear hbig hl
    have hK0 : ∀ W, Calls Try.prog 58 #[.int .i64 at_, .int .i64 0, .int .i64 (ws.length : Int)] W fun e w' => e = .returned (.bool (inQ at_ 0 ws.length)) ∧ w' = W := fun W => in_any at_ 0 ws.length W
    cases ha : inQ at_ 0 ws.length
    · rw [ha] at hK0
      rw [Bool.and_false]
      obtain ⟨a, cap, rfl⟩ := h.slice
      clear ha h
      go_enter Try.func56, Try.ntmps56
      go_wp2_with fail
      refine (hK0 _).mono ?_
      rintro e w' ⟨rfl, rfl⟩
      go_wp2_with fail
      go_ret
      exact ⟨rfl, rfl⟩
    rw [ha] at hK0
    rw [Bool.and_true]
    have K0 : Hid (∀ W, Calls Try.prog 58 #[.int .i64 at_, .int .i64 0, .int .i64 (ws.length : Int)] W fun e w' => e = .returned (.bool true) ∧ w' = W) := hK0
    clear ha hK0
    rcases h with ⟨a, cap, rfl, rfl⟩ | ⟨b, o, cap, rfl, hb, h0, hc⟩
    · go_enter Try.func56, Try.ntmps56
      go_wp2_with fail
      refine (K0.out _).mono ?_
      rintro e w0 ⟨rfl, hw0⟩
      obtain rfl := hw0.symm
      go_wp2_with fail
      refine wp_loop_rounds 1 ?_
      rw [rounds_succ]
      go_wp2_with fail
      go_ret
      exact ⟨rfl, rfl⟩
    · have HC : Hid (∀ j, j < ws.length → w.cell? ⟨b, o + j, none⟩ = some (.int .i64 (ws.getD j 0))) := hc
      clear hc h0 hb
      go_enter Try.func56, Try.ntmps56
      go_wp2_with fail
      refine (K0.out _).mono ?_
      rintro e w0 ⟨rfl, hw0⟩
      obtain rfl := hw0.symm
      go_wp2_with fail
      go_loopw [19] (fun i W => ∃ k : Nat, k ≤ ws.length ∧ i = .int .i64 k ∧ W = w ∧ Hid (∀ j, j < k → wd (ws.getD j 0) = true)) (fun i _ => ws.length - (intOf i).toNat)
      case atStart => exact ⟨0, by omega, rfl, rfl, fun j hj => absurd hj (by omega)⟩
      case round =>
        obtain ⟨k, hk, rfl, rfl, HW⟩ := hrel
        by_cases hlt : k < ws.length
        · have dl : decide ((k : Int) < (ws.length : Int)) = true := by simp; omega
          have c1 := HC.out k hlt
          cases hx : wd (ws.getD k 0)
          · have HF : Hid (wdB ws = false) := wdB_no k hlt hx
            have K1 : ∀ W, Calls Try.prog 58 #[.int .i64 (ws.getD k 0), .int .i64 0, .int .i64 4294967295] W fun e w' => e = .returned (.bool false) ∧ w' = W := fun W => by
              have := in_any (ws.getD k 0) 0 4294967295 W
              rw [inQ_wd, hx] at this
              exact this
            clear hx HW
            generalize ws.getD k 0 = x at c1 K1
            go_wp2_with fail
            refine (K1 _).mono ?_
            rintro e w' ⟨rfl, rfl⟩
            go_wp2_with fail
            go_ret
            exact ⟨by rw [HR.out, HF.out]; rfl, rfl⟩
          · have HF : Hid (∀ j, j < k + 1 → wd (ws.getD j 0) = true) := fun j hj => by
              rcases Nat.lt_or_ge j k with h1 | h1
              · exact HW.out j h1
              · obtain rfl : j = k := by omega
                exact hx
            have K1 : ∀ W, Calls Try.prog 58 #[.int .i64 (ws.getD k 0), .int .i64 0, .int .i64 4294967295] W fun e w' => e = .returned (.bool true) ∧ w' = W := fun W => by
              have := in_any (ws.getD k 0) 0 4294967295 W
              rw [inQ_wd, hx] at this
              exact this
            clear hx HW
            generalize ws.getD k 0 = x at c1 K1
            go_wp2_with fail
            refine (K1 _).mono ?_
            rintro e w' ⟨rfl, hw⟩
            obtain rfl := hw
            go_wp2_with fail
            exact ⟨⟨k + 1, by omega, by go_num, by trivial, HF⟩, by simp [intOf]; omega⟩
        · have dl : decide ((k : Int) < (ws.length : Int)) = false := by simp; omega
          have HF : Hid (wdB ws = true) := wdB_yes (fun j hj => HW.out j (by omega))
          go_wp2_with fail
          go_ret
          exact ⟨by rw [HR.out, HF.out]; rfl, rfl⟩
set_option maxRecDepth 100000 in
set_option maxHeartbeats 2000000 in
theorem mayDraw_any (ws : List Int) (v : Value) (at_ n : Int) (w : World) (h : Row w v ws) (hl : ws.length ≤ 9223372036854775807) :
    Calls Try.prog 51 #[v, .int .i64 at_, .int .i64 n] w fun e w' => e = .returned (.bool (wsB ws && inQ at_ 0 ws.length && inQ n 0 64)) ∧ w' = w := by
  have K0 : ∀ W, W = w → Calls Try.prog 88 #[v] W fun e w' => e = .returned (.bool (wsB ws)) ∧ w' = W := fun W e => by subst e; exact areWords_any ws v _ h hl
  obtain ⟨a, cap, rfl⟩ := h.slice
  clear h
  unfold inQ
  cases hq : wsB ws
  · rw [hq] at K0
    go_enter Try.func51, Try.ntmps51
    go_wp2_with fail
    refine (K0 _ rfl).mono ?_
    rintro e w' ⟨rfl, rfl⟩
    go_wp2_with fail
    go_ret
    exact ⟨by simp, rfl⟩
  · rw [hq] at K0
    have s1 : ∀ x : Bool, (true && x) = x := fun x => by simp
    by_cases h1 : 0 ≤ at_
    · have d1 : decide (0 ≤ at_) = true := decide_eq_true h1
      by_cases h2 : at_ ≤ (ws.length : Int)
      · have d2 : decide (at_ ≤ (ws.length : Int)) = true := decide_eq_true h2
        by_cases h3 : 0 ≤ n
        · have d3 : decide (0 ≤ n) = true := decide_eq_true h3
          go_enter Try.func51, Try.ntmps51
          go_wp2_with fail
          refine (K0 _ rfl).mono ?_
          rintro e w' ⟨rfl, rfl⟩
          go_wp2_with fail
          go_ret
          exact ⟨by simp [d1, d2, d3], rfl⟩
        · have d3 : decide (0 ≤ n) = false := decide_eq_false h3
          go_enter Try.func51, Try.ntmps51
          go_wp2_with fail
          refine (K0 _ rfl).mono ?_
          rintro e w' ⟨rfl, rfl⟩
          go_wp2_with fail
          go_ret
          exact ⟨by simp [d1, d2, d3], rfl⟩
      · have d2 : decide (at_ ≤ (ws.length : Int)) = false := decide_eq_false h2
        go_enter Try.func51, Try.ntmps51
        go_wp2_with fail
        refine (K0 _ rfl).mono ?_
        rintro e w' ⟨rfl, rfl⟩
        go_wp2_with fail
        go_ret
        exact ⟨by simp [d1, d2], rfl⟩
    · have d1 : decide (0 ≤ at_) = false := decide_eq_false h1
      go_enter Try.func51, Try.ntmps51
      go_wp2_with fail
      refine (K0 _ rfl).mono ?_
      rintro e w' ⟨rfl, rfl⟩
      go_wp2_with fail
      go_ret
      exact ⟨by simp [d1], rfl⟩
end Go.Proofs.Ytonbimgdkafnjaa
