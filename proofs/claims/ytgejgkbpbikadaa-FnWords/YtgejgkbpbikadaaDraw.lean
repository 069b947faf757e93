/- Proved: contracts of what is drawn for Barrett and for inverses: some numbers are told, nothing panics, and nothing that was there changes. -/
import Derived.Test.YtgejgkbpbikadaaRows
import Derived.WalkKit
import Derived.ProofKit
import Derived.OpenShut
import Derived.Handy
import Derived.Deep.QuietTactic
import Derived.BigQuiet
import Derived.Deep.RegionWith
import Derived.Test.YtgejgkbpbikadaaCur
namespace Go.Proofs.Ytgejgkbpbikadaa
open Go.ChangeShapes Go.WideShapes Go.ChangeAt Go.RowKit
open M1
set_option linter.unusedVariables false
set_option maxHeartbeats 1000000 in
theorem among_any {w0 : World} {code : Value} {len c B : Nat} {w : World} (h : Cur w0 code len c B w) (hB : B ≤ 274877906944) (hl : len ≤ 9223372036854775807) (b n cap : Nat) (P : Int → Prop) (hn : 2 ≤ n) (hn' : n ≤ 1000) (hb : b < w.heap.size) (hbc : b ≠ c)
    (hc : ∀ j, j < n → ∃ v : Int, P v ∧ w.cell? ⟨b, j, none⟩ = some (.int .i64 v)) :
    Calls Try.prog 54 #[.pointer (some ⟨c, 0, none⟩), .slice (some ⟨b, 0, none⟩) n cap] w fun e w' => (∃ v : Int, P v ∧ e = .returned (.int .i64 v)) ∧ Cur w0 code len c (B + 2) w' := by
  have c1 := pick_any h.rebase (by omega) hl (n : Int) (by omega) (by omega)
  have HC : Hid (Cur w0 code len c B w) := h
  have Hc : Hid (∀ j, j < n → ∃ v : Int, P v ∧ w.cell? ⟨b, j, none⟩ = some (.int .i64 v)) := hc
  clear h hc
  go_enter Try.func54, Try.ntmps54
  go_wp2_with fail
  refine c1.mono ?_
  rintro e w1 ⟨⟨v, ⟨hv0, hv1⟩, rfl⟩, C1⟩
  have HC1 : Hid (Cur w code len c (B + 2) w1) := C1
  clear C1 c1
  obtain ⟨k, rfl⟩ := Int.eq_ofNat_of_zero_le hv0
  obtain ⟨x, hx, hxc⟩ := Hc.out k (by omega)
  have hx1 : w1.cell? ⟨b, k, none⟩ = some (.int .i64 x) := by rw [HC1.out.kp _ _ hb hbc]; exact hxc
  clear hxc
  go_wp2_with fail
  go_ret
  exact ⟨⟨x, hx, rfl⟩, HC.out.trans HC1.out⟩
theorem smallC (w : World) (t : TypeId) : ∀ j, j < 9 → ∃ v : Int, (oddB v = true) ∧ (w.alloc (.cells #[.int .i64 97, .int .i64 193, .int .i64 257, .int .i64 353, .int .i64 449, .int .i64 577, .int .i64 641, .int .i64 673, .int .i64 769] t)).cell? ⟨w.heap.size, j, none⟩ = some (.int .i64 v) := by
  intro j hj
  rcases (show j = 0 ∨ j = 1 ∨ j = 2 ∨ j = 3 ∨ j = 4 ∨ j = 5 ∨ j = 6 ∨ j = 7 ∨ j = 8 by omega) with rfl | rfl | rfl | rfl | rfl | rfl | rfl | rfl | rfl
  · exact ⟨97, by decide, by simp⟩
  · exact ⟨193, by decide, by simp⟩
  · exact ⟨257, by decide, by simp⟩
  · exact ⟨353, by decide, by simp⟩
  · exact ⟨449, by decide, by simp⟩
  · exact ⟨577, by decide, by simp⟩
  · exact ⟨641, by decide, by simp⟩
  · exact ⟨673, by decide, by simp⟩
  · exact ⟨769, by decide, by simp⟩
theorem midC (w : World) (t : TypeId) : ∀ j, j < 5 → ∃ v : Int, (oddB v = true) ∧ (w.alloc (.cells #[.int .i64 3, .int .i64 5, .int .i64 17, .int .i64 13, .int .i64 31] t)).cell? ⟨w.heap.size, j, none⟩ = some (.int .i64 v) := by
  intro j hj
  rcases (show j = 0 ∨ j = 1 ∨ j = 2 ∨ j = 3 ∨ j = 4 by omega) with rfl | rfl | rfl | rfl | rfl
  · exact ⟨3, by decide, by simp⟩
  · exact ⟨5, by decide, by simp⟩
  · exact ⟨17, by decide, by simp⟩
  · exact ⟨13, by decide, by simp⟩
  · exact ⟨31, by decide, by simp⟩
theorem bigC (w : World) (t : TypeId) : ∀ j, j < 10 → ∃ v : Int, (oddB v = true) ∧ (w.alloc (.cells #[.int .i64 268435361, .int .i64 268435009, .int .i64 268434977, .int .i64 268434721, .int .i64 268434401, .int .i64 268433761, .int .i64 268433569, .int .i64 268433441, .int .i64 268433377, .int .i64 268433057] t)).cell? ⟨w.heap.size, j, none⟩ = some (.int .i64 v) := by
  intro j hj
  rcases (show j = 0 ∨ j = 1 ∨ j = 2 ∨ j = 3 ∨ j = 4 ∨ j = 5 ∨ j = 6 ∨ j = 7 ∨ j = 8 ∨ j = 9 by omega) with rfl | rfl | rfl | rfl | rfl | rfl | rfl | rfl | rfl | rfl
  · exact ⟨268435361, by decide, by simp⟩
  · exact ⟨268435009, by decide, by simp⟩
  · exact ⟨268434977, by decide, by simp⟩
  · exact ⟨268434721, by decide, by simp⟩
  · exact ⟨268434401, by decide, by simp⟩
  · exact ⟨268433761, by decide, by simp⟩
  · exact ⟨268433569, by decide, by simp⟩
  · exact ⟨268433441, by decide, by simp⟩
  · exact ⟨268433377, by decide, by simp⟩
  · exact ⟨268433057, by decide, by simp⟩
theorem modC (w : World) (t : TypeId) : ∀ j, j < 7 → ∃ v : Int, (-1 ≤ v ∧ v ≤ 268435457) ∧ (w.alloc (.cells #[.int .i64 (-1), .int .i64 0, .int .i64 1, .int .i64 2, .int .i64 268435456, .int .i64 268435457, .int .i64 268435455] t)).cell? ⟨w.heap.size, j, none⟩ = some (.int .i64 v) := by
  intro j hj
  rcases (show j = 0 ∨ j = 1 ∨ j = 2 ∨ j = 3 ∨ j = 4 ∨ j = 5 ∨ j = 6 by omega) with rfl | rfl | rfl | rfl | rfl | rfl | rfl
  · exact ⟨-1, by decide, by simp⟩
  · exact ⟨0, by decide, by simp⟩
  · exact ⟨1, by decide, by simp⟩
  · exact ⟨2, by decide, by simp⟩
  · exact ⟨268435456, by decide, by simp⟩
  · exact ⟨268435457, by decide, by simp⟩
  · exact ⟨268435455, by decide, by simp⟩
set_option maxHeartbeats 1000000 in
theorem prime_any {w0 : World} {code : Value} {len c B : Nat} {w : World} (h : Cur w0 code len c B w) (hB : B ≤ 137438953472) (hl : len ≤ 9223372036854775807) :
    Calls Try.prog 34 #[.pointer (some ⟨c, 0, none⟩)] w fun e w' => (∃ v : Int, oddB v = true ∧ e = .returned (.int .i64 v)) ∧ Cur w0 code len c (B + 4) w' := by
  have c1 := pick_any h (by omega) hl 3 (by omega) (by omega)
  clear h
  go_enter Try.func34, Try.ntmps34
  go_wp2_with fail
  refine c1.mono ?_
  rintro e w1 ⟨⟨v, ⟨hv0, hv1⟩, rfl⟩, C1⟩
  have HC1 : Hid (Cur w0 code len c (B + 2) w1) := C1
  clear C1 c1
  rcases (show v = 0 ∨ v = 1 ∨ v = 2 by omega) with h0 | h0 | h0
  · have d0 : (v == 0) = true := by simp; omega
    clear h0
    go_wp2_with (go_at_call 55; go_in)
    refine (among_any (HC1.out.alloc _ _) (by omega) hl w1.heap.size 9 _ _ (by omega) (by omega) (by simp) (by have := HC1.out.hi; have := HC1.out.sz; omega) (smallC w1 _)).mono ?_
    rintro e w2 ⟨⟨x, hx, rfl⟩, C2⟩
    have HC2 : Hid (Cur w0 code len c (B + 2 + 2) w2) := C2
    clear C2
    have HX : Hid (oddB x = true) := hx
    clear hx
    go_wp2_with fail
    go_ret
    exact ⟨⟨x, HX.out, rfl⟩, HC2.out⟩
  · have d0 : (v == 0) = false := by simp; omega
    have d1 : (v == 1) = true := by simp; omega
    clear h0
    go_wp2_with fail
    refine (among_any (HC1.out.alloc _ _) (by omega) hl w1.heap.size 5 _ _ (by omega) (by omega) (by simp) (by have := HC1.out.hi; have := HC1.out.sz; omega) (midC w1 _)).mono ?_
    rintro e w2 ⟨⟨x, hx, rfl⟩, C2⟩
    have HC2 : Hid (Cur w0 code len c (B + 2 + 2) w2) := C2
    clear C2
    have HX : Hid (oddB x = true) := hx
    clear hx
    go_wp2_with fail
    go_ret
    exact ⟨⟨x, HX.out, rfl⟩, HC2.out⟩
  · have d0 : (v == 0) = false := by simp; omega
    have d1 : (v == 1) = false := by simp; omega
    clear h0
    go_wp2_with (go_at_call 56; go_in)
    refine (among_any (HC1.out.alloc _ _) (by omega) hl w1.heap.size 10 _ _ (by omega) (by omega) (by simp) (by have := HC1.out.hi; have := HC1.out.sz; omega) (bigC w1 _)).mono ?_
    rintro e w2 ⟨⟨x, hx, rfl⟩, C2⟩
    have HC2 : Hid (Cur w0 code len c (B + 2 + 2) w2) := C2
    clear C2
    have HX : Hid (oddB x = true) := hx
    clear hx
    go_wp2_with fail
    go_ret
    exact ⟨⟨x, HX.out, rfl⟩, HC2.out⟩
theorem mask28 (x : Int) : ∃ M : Int, (0 ≤ M ∧ M ≤ 268435455) ∧ bits BinOp.and IntKind.i64 x 268435455 = M := by
  refine ⟨_, ?_, rfl⟩
  show 0 ≤ IntKind.i64.wrap (((BitVec.ofInt 64 x &&& BitVec.ofInt 64 268435455).toNat : Nat) : Int) ∧ IntKind.i64.wrap (((BitVec.ofInt 64 x &&& BitVec.ofInt 64 268435455).toNat : Nat) : Int) ≤ 268435455
  have h : (BitVec.ofInt 64 x &&& BitVec.ofInt 64 268435455).toNat ≤ 268435455 := by
    rw [BitVec.toNat_and]
    exact Nat.le_trans Nat.and_le_right (by decide)
  rw [IntKind.wrap_i64]
  omega
set_option maxHeartbeats 1000000 in
theorem below_any {w0 : World} {code : Value} {len c B : Nat} {w : World} (h : Cur w0 code len c B w) (hB : B ≤ 137438953472) (hl : len ≤ 9223372036854775807) (p : Int) (hp : -1 ≤ p) (hp' : p ≤ 268435457) :
    Calls Try.prog 36 #[.pointer (some ⟨c, 0, none⟩), .int .i64 p] w fun e w' => (∃ v : Int, (-9223372036854775808 ≤ v ∧ v ≤ 9223372036854775807) ∧ e = .returned (.int .i64 v)) ∧ Cur w0 code len c (B + 30) w' := by
  by_cases h1 : p < 1
  · have c1 := sized_any h (by omega) hl
    clear h
    have d1 : decide (p < 1) = true := by simp; omega
    go_enter Try.func36, Try.ntmps36
    go_wp2_with fail
    refine c1.mono ?_
    rintro e w1 ⟨⟨v, hv, rfl⟩, C1⟩
    have HC1 : Hid (Cur w0 code len c (B + 20) w1) := C1
    clear C1 c1
    go_wp2_with fail
    go_ret
    exact ⟨⟨v, hv, rfl⟩, HC1.out.mono (by omega)⟩
  · have c1 := one_any h (by omega) hl 40 (by omega) (by omega)
    clear h
    have d1 : decide (p < 1) = false := by simp; omega
    have hpn : ¬ p = 0 := by omega
    go_enter Try.func36, Try.ntmps36
    go_wp2_with fail
    refine c1.mono ?_
    rintro e w1 ⟨⟨o, rfl⟩, C1⟩
    have HC1 : Hid (Cur w0 code len c (B + 2) w1) := C1
    clear C1 c1
    cases o
    · have c2 := one_any HC1.out (by omega) hl 6 (by omega) (by omega)
      go_wp2_with fail
      refine c2.mono ?_
      rintro e w2 ⟨⟨o2, rfl⟩, C2⟩
      have HC2 : Hid (Cur w0 code len c (B + 2 + 2) w2) := C2
      clear C2 c2
      cases o2
      · have c3 := wide_any HC2.out (by omega) hl
        go_wp2_with fail
        refine c3.mono ?_
        rintro e w3 ⟨⟨x, ⟨hx0, hx1⟩, rfl⟩, C3⟩
        have HC3 : Hid (Cur w0 code len c (B + 2 + 2 + 8) w3) := C3
        clear C3 c3
        go_wp2_with fail
        go_ret
        exact ⟨⟨_, wrap64_bd _, rfl⟩, HC3.out.mono (by omega)⟩
      · go_wp2_with fail
        go_ret
        exact ⟨⟨p - 1, ⟨by omega, by omega⟩, rfl⟩, HC2.out.mono (by omega)⟩
    · have c2 := sized_any HC1.out (by omega) hl
      go_wp2_with fail
      refine c2.mono ?_
      rintro e w2 ⟨⟨v, hv, rfl⟩, C2⟩
      have HC2 : Hid (Cur w0 code len c (B + 2 + 20) w2) := C2
      clear C2 c2
      go_wp2_with fail
      go_ret
      exact ⟨⟨v, hv, rfl⟩, HC2.out.mono (by omega)⟩
set_option maxHeartbeats 1000000 in
theorem modulus_any {w0 : World} {code : Value} {len c B : Nat} {w : World} (h : Cur w0 code len c B w) (hB : B ≤ 68719476736) (hl : len ≤ 9223372036854775807) :
    Calls Try.prog 43 #[.pointer (some ⟨c, 0, none⟩)] w fun e w' => (∃ v : Int, (-1 ≤ v ∧ v ≤ 268435457) ∧ e = .returned (.int .i64 v)) ∧ Cur w0 code len c (B + 12) w' := by
  have c1 := pick_any h (by omega) hl 6 (by omega) (by omega)
  clear h
  go_enter Try.func43, Try.ntmps43
  go_wp2_with fail
  refine c1.mono ?_
  rintro e w1 ⟨⟨v, ⟨hv0, hv1⟩, rfl⟩, C1⟩
  have HC1 : Hid (Cur w0 code len c (B + 2) w1) := C1
  clear C1 c1
  rcases (show v = 0 ∨ v = 1 ∨ v = 2 ∨ 3 ≤ v by omega) with h0 | h0 | h0 | h0
  · have d0 : (v == 0) = true := by simp; omega
    have c2 := pick_any HC1.out (by omega) hl 40 (by omega) (by omega)
    clear h0
    go_wp2_with fail
    refine c2.mono ?_
    rintro e w2 ⟨⟨x, ⟨hx0, hx1⟩, rfl⟩, C2⟩
    have HC2 : Hid (Cur w0 code len c (B + 2 + 2) w2) := C2
    clear C2 c2
    go_wp2_with fail
    go_ret
    exact ⟨⟨2 + x, ⟨by omega, by omega⟩, rfl⟩, HC2.out.mono (by omega)⟩
  · have d0 : (v == 0) = false := by simp; omega
    have d1 : (v == 1) = true := by simp; omega
    clear h0
    go_wp2_with fail
    refine (among_any (HC1.out.alloc _ _) (by omega) hl w1.heap.size 7 _ _ (by omega) (by omega) (by simp) (by have := HC1.out.hi; have := HC1.out.sz; omega) (modC w1 _)).mono ?_
    rintro e w2 ⟨⟨x, hx, rfl⟩, C2⟩
    have HC2 : Hid (Cur w0 code len c (B + 2 + 2) w2) := C2
    clear C2
    go_wp2_with fail
    go_ret
    exact ⟨⟨x, hx, rfl⟩, HC2.out.mono (by omega)⟩
  · have d0 : (v == 0) = false := by simp; omega
    have d1 : (v == 1) = false := by simp; omega
    have d2 : (v == 2) = true := by simp; omega
    have c2 := wide_any HC1.out (by omega) hl
    clear h0
    go_wp2_with fail
    refine c2.mono ?_
    rintro e w2 ⟨⟨x, ⟨hx0, hx1⟩, rfl⟩, C2⟩
    have HC2 : Hid (Cur w0 code len c (B + 2 + 8) w2) := C2
    clear C2 c2
    obtain ⟨M, ⟨hM0, hM1⟩, rM⟩ := mask28 x
    go_wp2_with fail
    go_ret
    exact ⟨⟨2 + M / 2, ⟨by omega, by omega⟩, rfl⟩, HC2.out.mono (by omega)⟩
  · have d0 : (v == 0) = false := by simp; omega
    have d1 : (v == 1) = false := by simp; omega
    have d2 : (v == 2) = false := by simp; omega
    have c2 := prime_any HC1.out (by omega) hl
    clear h0
    go_wp2_with fail
    refine c2.mono ?_
    rintro e w2 ⟨⟨x, hx, rfl⟩, C2⟩
    have HC2 : Hid (Cur w0 code len c (B + 2 + 4) w2) := C2
    clear C2 c2
    obtain ⟨_, x1, x2, _⟩ := oddB_yes hx
    clear hx
    go_wp2_with fail
    go_ret
    exact ⟨⟨x, ⟨by omega, by omega⟩, rfl⟩, HC2.out.mono (by omega)⟩
/-- v is a slice of len bytes that lie in w -/
def InW (w : World) (v : Value) (len : Nat) : Prop :=
  (∃ a cap, v = .slice a 0 cap ∧ len = 0) ∨ ∃ b o cap, v = .slice (some ⟨b, o, none⟩) len cap ∧ b < w.heap.size ∧ ∀ j, j < len → ∃ x : Int, (0 ≤ x ∧ x ≤ 255) ∧ w.cell? ⟨b, o + j, none⟩ = some (.int .u8 x)
theorem InW.grown {w w1 : World} {v : Value} {len : Nat} (h : InW w v len) (g : Grown w w1) : InW w1 v len := by
  rcases h with h1 | ⟨b, o, cap, e, hb, hbt⟩
  · exact Or.inl h1
  · refine Or.inr ⟨b, o, cap, e, Nat.lt_of_lt_of_le hb g.2.2, fun j hj => ?_⟩
    obtain ⟨x, hx, hc⟩ := hbt j hj
    exact ⟨x, hx, by rw [gcell g _ hb]; exact hc⟩
theorem InW.slice {w : World} {v : Value} {len : Nat} (h : InW w v len) : ∃ a cap, v = .slice a len cap := by
  rcases h with ⟨a, cap, e, e2⟩ | ⟨b, o, cap, e, _⟩
  · exact ⟨_, cap, by rw [e, e2]⟩
  · exact ⟨_, cap, e⟩
theorem frozen_new (w : World) (xs : Array Value) (t : TypeId) (j : Nat) : (w.alloc (.cells xs t)).frozen? ⟨w.heap.size, j, none⟩ = false := by simp
/-- a new cursor -/
theorem Cur.new {w : World} {code : Value} {len : Nat} (h : InW w code len) (t : TypeId) : Cur (w.alloc (.cells #[code, .int .i64 0, .int .u64 0] t)) code len w.heap.size 0 (w.alloc (.cells #[code, .int .i64 0, .int .u64 0] t)) := by
  have g : Grown w (w.alloc (.cells #[code, .int .i64 0, .int .u64 0] t)) := Grown.alloc (Grown.refl w) _ _
  refine ⟨fun W g _ => g, fun _ _ _ _ => rfl, fun _ _ _ => rfl, Nat.le_refl _, by simp, ?_, by simp, ⟨0, ⟨by omega, by omega⟩, by simp⟩, ⟨0, ⟨by omega, by omega⟩, by simp⟩, fun j => frozen_new _ _ _ _⟩
  rcases h with h1 | ⟨b, o, cap, e, hb, hbt⟩
  · exact Or.inl h1
  · refine Or.inr ⟨b, o, cap, e, ⟨Nat.lt_of_lt_of_le hb g.2.2, by omega⟩, fun j hj => ?_⟩
    obtain ⟨x, hx, hc⟩ := hbt j hj
    exact ⟨x, hx, by rw [gcell g _ hb]; exact hc⟩
set_option maxHeartbeats 1000000 in
theorem drawInv_any (code : Value) (len : Nat) (w : World) (h : InW w code len) (hl : len ≤ 9223372036854775807) :
    Calls Try.prog 19 #[code] w fun e w' => (∃ a m : Int, (-9223372036854775808 ≤ a ∧ a ≤ 9223372036854775807) ∧ (-1 ≤ m ∧ m ≤ 268435457) ∧ e = .returned (.tuple #[.int .i64 a, .int .i64 m])) ∧ Grown w w' := by
  obtain ⟨a0, cap0, rfl⟩ := h.slice
  have C0 := fun t => Cur.new h t
  have HC0 : Hid (∀ t, Cur (w.alloc (.cells #[.slice a0 len cap0, .int .i64 0, .int .u64 0] t)) (.slice a0 len cap0) len w.heap.size 0 (w.alloc (.cells #[.slice a0 len cap0, .int .i64 0, .int .u64 0] t))) := C0
  clear h C0
  go_enter Try.func19, Try.ntmps19
  go_wp2_with fail
  refine (modulus_any (HC0.out _) (by omega) hl).mono ?_
  rintro e w1 ⟨⟨m, hm, rfl⟩, C1⟩
  have HC1 : Hid (Cur _ (.slice a0 len cap0) len w.heap.size 12 w1) := C1
  clear C1
  go_wp2_with fail
  refine (below_any HC1.out (by omega) hl m hm.1 hm.2).mono ?_
  rintro e w2 ⟨⟨a, ha, rfl⟩, C2⟩
  have HC2 : Hid (Cur _ (.slice a0 len cap0) len w.heap.size 42 w2) := C2
  clear C2
  go_wp2_with fail
  go_ret2
  exact ⟨⟨a, m, ha, hm, rfl⟩, HC2.out.gr w (Grown.alloc (Grown.refl _) _ _) (Nat.le_refl _)⟩
theorem Cur.setOther {w0 : World} {code : Value} {len c B : Nat} {w : World} (h : Cur w0 code len c B w) {b : Nat} (j : Nat) (v : Value) (hb : w0.heap.size ≤ b) : Cur w0 code len c B (w.setCell ⟨b, j, none⟩ v) := by
  have hcb : b ≠ c := by have := h.hi; omega
  have e : ∀ k, (w.setCell ⟨b, j, none⟩ v).cell? ⟨c, k, none⟩ = w.cell? ⟨c, k, none⟩ := fun k => cell_ne _ _ _ _ (fun e => hcb (by cases e; rfl))
  refine ⟨fun W g hc => Grown.setCell (h.gr W g hc) (by show W.heap.size ≤ b; have := h.hi; omega) _, fun b' o hb' hne => by rw [cell_ne _ _ _ _ (fun e => by cases e; omega)]; exact h.kp b' o hb' hne, fun b' o hb' => by simp [h.kf b' o hb'], by rw [size_setCell]; exact h.sz, h.hi, h.bts, by rw [e]; exact h.code, ?_, ?_, fun k => by simp [h.fr k]⟩
  · obtain ⟨n, h1, h2⟩ := h.at_; exact ⟨n, h1, by rw [e]; exact h2⟩
  · obtain ⟨n, h1, h2⟩ := h.seed; exact ⟨n, h1, by rw [e]; exact h2⟩
set_option maxHeartbeats 4000000 in
theorem drawBar_any (code : Value) (len : Nat) (w : World) (h : InW w code len) (hl : len ≤ 9223372036854775807) :
    Calls Try.prog 12 #[code] w fun e w' => (∃ p s m x y : Int, (-9223372036854775808 ≤ x ∧ x ≤ 9223372036854775807) ∧ (-9223372036854775808 ≤ y ∧ y ≤ 9223372036854775807) ∧ e = .returned (.tuple #[.agg #[.int .i64 p, .int .i64 s, .int .i64 m], .int .i64 x, .int .i64 y])) ∧ Grown w w' := by
  obtain ⟨a0, cap0, rfl⟩ := h.slice
  have C0 := fun t t' xs => Cur.new (h.grown (Grown.alloc (Grown.refl w) xs t')) t
  have HC0 : Hid (∀ t t' xs, Cur ((w.alloc (.cells xs t')).alloc (.cells #[.slice a0 len cap0, .int .i64 0, .int .u64 0] t)) (.slice a0 len cap0) len (w.alloc (.cells xs t')).heap.size 0 ((w.alloc (.cells xs t')).alloc (.cells #[.slice a0 len cap0, .int .i64 0, .int .u64 0] t))) := C0
  clear h C0
  go_enter Try.func12, Try.ntmps12
  go_wp2_with fail
  have HC0' : Cur ((w.alloc (.cells #[.int .i64 0, .int .i64 0, .int .i64 0] 24)).alloc (.cells #[.slice a0 len cap0, .int .i64 0, .int .u64 0] 58)) (.slice a0 len cap0) len (w.heap.size + 1) 0 ((w.alloc (.cells #[.int .i64 0, .int .i64 0, .int .i64 0] 24)).alloc (.cells #[.slice a0 len cap0, .int .i64 0, .int .u64 0] 58)) := by simpa using HC0.out 58 24 #[.int .i64 0, .int .i64 0, .int .i64 0]
  refine (prime_any HC0' (by omega) hl).mono ?_
  rintro e w1 ⟨⟨p, hp, rfl⟩, C1⟩
  obtain ⟨_, hp1, hp2, _⟩ := oddB_yes hp
  obtain ⟨q, rfl⟩ := Int.eq_ofNat_of_zero_le (show 0 ≤ p by omega)
  have cb := fun W => spec_BarrettOf_yes q W hp
  generalize Lib.bitLen q = L at *
  have HC1 : Hid (Cur _ (.slice a0 len cap0) len (w.heap.size + 1) 4 w1) := C1
  clear C1 hp HC0 HC0'
  have hcw : w.heap.size + 1 < w1.heap.size := by have := HC1.out.sz; simp at this; omega
  go_wp2_with (go_at_call 24; refine (cb _).mono ?_; rintro e w2 ⟨rfl, rfl⟩)
  have HC2 : Hid (Cur _ (.slice a0 len cap0) len (w.heap.size + 1) 4 ((w1.alloc (.cells (barV q L) 24)).alloc (.cells #[.int .i64 q, .int .i64 (2 * L), .int .i64 (2 ^ (2 * L) / q)] 24))) := (HC1.out.alloc _ _).alloc _ _
  have hbc : w1.heap.size + 1 ≠ w.heap.size + 1 := by omega
  have hrc : w.heap.size ≠ w.heap.size + 1 := by omega
  refine (one_any HC2.out.rebase (by omega) hl 16 (by omega) (by omega)).mono ?_
  rintro e w3 ⟨⟨o, rfl⟩, E3⟩
  have D3 := HC2.out.trans E3
  have qb0 : w3.cell? ⟨w1.heap.size + 1, 0, none⟩ = some (.int .i64 q) := (E3.kp _ _ (by simp) hbc).trans (by simp)
  have qb1 : w3.cell? ⟨w1.heap.size + 1, 1, none⟩ = some (.int .i64 (2 * L)) := (E3.kp _ _ (by simp) hbc).trans (by simp)
  have qb2 : w3.cell? ⟨w1.heap.size + 1, 2, none⟩ = some (.int .i64 (2 ^ (2 * L) / q)) := (E3.kp _ _ (by simp) hbc).trans (by simp)
  have fb2 : w3.frozen? ⟨w1.heap.size + 1, 2, none⟩ = false := (E3.kf _ _ (by simp)).trans (by simp)
  have qr0 : w3.cell? ⟨w.heap.size, 0, none⟩ = some (.int .i64 0) := (D3.kp _ _ (by simp; omega) hrc).trans (by simp)
  have qr1 : w3.cell? ⟨w.heap.size, 1, none⟩ = some (.int .i64 0) := (D3.kp _ _ (by simp; omega) hrc).trans (by simp)
  have qr2 : w3.cell? ⟨w.heap.size, 2, none⟩ = some (.int .i64 0) := (D3.kp _ _ (by simp; omega) hrc).trans (by simp)
  have fr0 : w3.frozen? ⟨w.heap.size, 0, none⟩ = false := (D3.kf _ _ (by simp; omega)).trans (by simp)
  have fr1 : w3.frozen? ⟨w.heap.size, 1, none⟩ = false := (D3.kf _ _ (by simp; omega)).trans (by simp)
  have fr2 : w3.frozen? ⟨w.heap.size, 2, none⟩ = false := (D3.kf _ _ (by simp; omega)).trans (by simp)
  have hsz3 : w1.heap.size + 2 ≤ w3.heap.size := by have := E3.sz; simp at this; omega
  have HG3 : Hid (Grown w w3) := D3.gr w (Grown.alloc (Grown.alloc (Grown.refl _) _ _) _ _) (by omega)
  have HD3 : Hid (Cur _ (.slice a0 len cap0) len (w.heap.size + 1) 6 w3) := D3
  clear E3 D3 HC2
  cases o
  · have hbl : w1.heap.size + 1 < w3.heap.size := by omega
    have hrl : w.heap.size < w3.heap.size := by omega
    have H1 : Hid (Cur w3 (.slice a0 len cap0) len (w.heap.size + 1) 6 w3) := HD3.out.rebase
    have HG : Hid (Grown w w3) := HG3.out
    clear HG3 HD3 fb2
    have tok : True := trivial
    go_wp2_with fail
    go_region_with (first
      | (go_at_call 36; have _t := tok; refine (below_any (H1.out.drewN 1) (by omega) hl (q : Int) (by omega) (by omega)).mono ?_; rintro e w5 ⟨⟨x, hx, rfl⟩, C5⟩; have H5 : Hid (Cur _ (.slice a0 len cap0) len (w.heap.size + 1) _ w5) := C5; have a0' := (C5.kp (w1.heap.size + 1) 0 hbl hbc).trans qb0; have a1' := (C5.kp (w1.heap.size + 1) 1 hbl hbc).trans qb1; have a2' := (C5.kp (w1.heap.size + 1) 2 hbl hbc).trans qb2; clear tok C5)
      | (go_at_call 36; refine (below_any H5.out (by omega) hl (q : Int) (by omega) (by omega)).mono ?_; rintro e w6 ⟨⟨y, hy, rfl⟩, C6⟩; have H6 : Hid (Cur _ (.slice a0 len cap0) len (w.heap.size + 1) _ w6) := C6; have a0' := (C6.kp (w1.heap.size + 1) 0 hbl hbc).trans qb0; have a1' := (C6.kp (w1.heap.size + 1) 1 hbl hbc).trans qb1; have a2' := (C6.kp (w1.heap.size + 1) 2 hbl hbc).trans qb2; have z0 := (C6.kp w.heap.size 0 hrl hrc).trans qr0; have z1 := (C6.kp w.heap.size 1 hrl hrc).trans qr1; have z2 := (C6.kp w.heap.size 2 hrl hrc).trans qr2; have f0 := (C6.kf w.heap.size 0 hrl).trans fr0; have f1 := (C6.kf w.heap.size 1 hrl).trans fr1; have f2 := (C6.kf w.heap.size 2 hrl).trans fr2; clear C6))
    all_goals
      go_wp2_with fail
      have hgf := H6.out.gr w HG.out (by omega)
      refine bodyPost_ret (v := .tuple #[.agg #[.int .i64 q, .int .i64 (2 * L), .int .i64 (2 ^ (2 * L) / q)], .int .i64 x, .int .i64 y]) (by simp [results, Try.results12, go_sem, z0, z1, z2]) rfl ⟨⟨_, _, _, x, y, hx, hy, rfl⟩, ?_⟩
      exact Grown.setCell (Grown.setCell (Grown.setCell hgf (Nat.le_refl _) _) (Nat.le_refl _) _) (Nat.le_refl _) _
  · obtain ⟨V, hV⟩ : ∃ V, wrap64 ((2 ^ (2 * L) / q) + 1) = V := ⟨_, rfl⟩
    have D4 : Cur _ (.slice a0 len cap0) len (w.heap.size + 1) 6 (w3.setCell ⟨w1.heap.size + 1, 2, none⟩ (.int .i64 V)) := HD3.out.setOther (b := w1.heap.size + 1) 2 _ (by simp; omega)
    have HG : Hid (Grown w (w3.setCell ⟨w1.heap.size + 1, 2, none⟩ (.int .i64 V))) := Grown.setCell HG3.out (by show w.heap.size ≤ w1.heap.size + 1; omega) _
    have ne1 : ∀ j, j ≠ 2 → (w3.setCell ⟨w1.heap.size + 1, 2, none⟩ (.int .i64 V)).cell? ⟨w1.heap.size + 1, j, none⟩ = w3.cell? ⟨w1.heap.size + 1, j, none⟩ := fun j hj => cell_ne _ _ _ _ (fun e => hj (by cases e; rfl))
    have ne2 : ∀ j, (w3.setCell ⟨w1.heap.size + 1, 2, none⟩ (.int .i64 V)).cell? ⟨w.heap.size, j, none⟩ = w3.cell? ⟨w.heap.size, j, none⟩ := fun j => cell_ne _ _ _ _ (fun e => by have := congrArg Addr.block e; simp at this; omega)
    have xb0 := (ne1 0 (by omega)).trans qb0
    have xb1 := (ne1 1 (by omega)).trans qb1
    have xb2 := World.cell?_setCell_same w3 ⟨w1.heap.size + 1, 2, none⟩ (.int .i64 V) qb2
    have xr0 := (ne2 0).trans qr0
    have xr1 := (ne2 1).trans qr1
    have xr2 := (ne2 2).trans qr2
    have xf0 : (w3.setCell ⟨w1.heap.size + 1, 2, none⟩ (.int .i64 V)).frozen? ⟨w.heap.size, 0, none⟩ = false := by simp [fr0]
    have xf1 : (w3.setCell ⟨w1.heap.size + 1, 2, none⟩ (.int .i64 V)).frozen? ⟨w.heap.size, 1, none⟩ = false := by simp [fr1]
    have xf2 : (w3.setCell ⟨w1.heap.size + 1, 2, none⟩ (.int .i64 V)).frozen? ⟨w.heap.size, 2, none⟩ = false := by simp [fr2]
    have hsz4 : (w3.setCell ⟨w1.heap.size + 1, 2, none⟩ (.int .i64 V)).heap.size = w3.heap.size := size_setCell _ _ _
    have HX : Hid ((((w3.setCell ⟨w1.heap.size + 1, 2, none⟩ (.int .i64 V)).cell? ⟨w1.heap.size + 1, 0, none⟩ = some (.int .i64 q) ∧ (w3.setCell ⟨w1.heap.size + 1, 2, none⟩ (.int .i64 V)).cell? ⟨w1.heap.size + 1, 1, none⟩ = some (.int .i64 (2 * L)) ∧ (w3.setCell ⟨w1.heap.size + 1, 2, none⟩ (.int .i64 V)).cell? ⟨w1.heap.size + 1, 2, none⟩ = some (.int .i64 V))
      ∧ ((w3.setCell ⟨w1.heap.size + 1, 2, none⟩ (.int .i64 V)).cell? ⟨w.heap.size, 0, none⟩ = some (.int .i64 0) ∧ (w3.setCell ⟨w1.heap.size + 1, 2, none⟩ (.int .i64 V)).cell? ⟨w.heap.size, 1, none⟩ = some (.int .i64 0) ∧ (w3.setCell ⟨w1.heap.size + 1, 2, none⟩ (.int .i64 V)).cell? ⟨w.heap.size, 2, none⟩ = some (.int .i64 0)))
      ∧ ((w3.setCell ⟨w1.heap.size + 1, 2, none⟩ (.int .i64 V)).frozen? ⟨w.heap.size, 0, none⟩ = false ∧ (w3.setCell ⟨w1.heap.size + 1, 2, none⟩ (.int .i64 V)).frozen? ⟨w.heap.size, 1, none⟩ = false ∧ (w3.setCell ⟨w1.heap.size + 1, 2, none⟩ (.int .i64 V)).frozen? ⟨w.heap.size, 2, none⟩ = false)
      ∧ (w3.setCell ⟨w1.heap.size + 1, 2, none⟩ (.int .i64 V)).heap.size = w3.heap.size) := ⟨⟨⟨xb0, xb1, xb2⟩, xr0, xr1, xr2⟩, ⟨xf0, xf1, xf2⟩, hsz4⟩
    have H1' : Hid (Cur (w3.setCell ⟨w1.heap.size + 1, 2, none⟩ (.int .i64 V)) (.slice a0 len cap0) len (w.heap.size + 1) 6 (w3.setCell ⟨w1.heap.size + 1, 2, none⟩ (.int .i64 V))) := D4.rebase
    clear ne1 ne2 xb0 xb1 xb2 xr0 xr1 xr2 xf0 xf1 xf2 hsz4 D4 HG3 HD3
    go_wp2_with fail
    clear hV qb0 qb1 qb2 qr0 qr1 qr2 fr0 fr1 fr2 fb2
    generalize w3.setCell ⟨w1.heap.size + 1, 2, none⟩ (.int .i64 V) = Ws at *
    obtain ⟨⟨⟨qb0, qb1, qb2⟩, qr0, qr1, qr2⟩, ⟨fr0, fr1, fr2⟩, hsz4⟩ := HX.out
    have H1 : Hid (Cur Ws (.slice a0 len cap0) len (w.heap.size + 1) 6 Ws) := H1'.out
    clear HX H1'
    have hbl : w1.heap.size + 1 < Ws.heap.size := by omega
    have hrl : w.heap.size < Ws.heap.size := by omega
    clear hsz4 hsz3
    have tok : True := trivial
    go_region_with (first
      | (go_at_call 36; have _t := tok; refine (below_any (H1.out.drewN 1) (by omega) hl (q : Int) (by omega) (by omega)).mono ?_; rintro e w5 ⟨⟨x, hx, rfl⟩, C5⟩; have H5 : Hid (Cur _ (.slice a0 len cap0) len (w.heap.size + 1) _ w5) := C5; have a0' := (C5.kp (w1.heap.size + 1) 0 hbl hbc).trans qb0; have a1' := (C5.kp (w1.heap.size + 1) 1 hbl hbc).trans qb1; have a2' := (C5.kp (w1.heap.size + 1) 2 hbl hbc).trans qb2; clear tok C5)
      | (go_at_call 36; refine (below_any H5.out (by omega) hl (q : Int) (by omega) (by omega)).mono ?_; rintro e w6 ⟨⟨y, hy, rfl⟩, C6⟩; have H6 : Hid (Cur _ (.slice a0 len cap0) len (w.heap.size + 1) _ w6) := C6; have a0' := (C6.kp (w1.heap.size + 1) 0 hbl hbc).trans qb0; have a1' := (C6.kp (w1.heap.size + 1) 1 hbl hbc).trans qb1; have a2' := (C6.kp (w1.heap.size + 1) 2 hbl hbc).trans qb2; have z0 := (C6.kp w.heap.size 0 hrl hrc).trans qr0; have z1 := (C6.kp w.heap.size 1 hrl hrc).trans qr1; have z2 := (C6.kp w.heap.size 2 hrl hrc).trans qr2; have f0 := (C6.kf w.heap.size 0 hrl).trans fr0; have f1 := (C6.kf w.heap.size 1 hrl).trans fr1; have f2 := (C6.kf w.heap.size 2 hrl).trans fr2; clear C6))
    all_goals
      go_wp2_with fail
      have hgf := H6.out.gr w HG.out (by omega)
      refine bodyPost_ret (v := .tuple #[.agg #[.int .i64 q, .int .i64 (2 * L), .int .i64 V], .int .i64 x, .int .i64 y]) (by simp [results, Try.results12, go_sem, z0, z1, z2]) rfl ⟨⟨_, _, _, x, y, hx, hy, rfl⟩, ?_⟩
      exact Grown.setCell (Grown.setCell (Grown.setCell hgf (Nat.le_refl _) _) (Nat.le_refl _) _) (Nat.le_refl _) _
end Go.Proofs.Ytgejgkbpbikadaa
