/- Proved: the contract of what is drawn for roots: some numbers of those that may be drawn are told, nothing panics, and nothing that was there changes. -/
import Derived.Test.YtgejgkbpbikadaaDoorRows
import Derived.WalkKit
import Derived.ProofKit
import Derived.OpenShut
import Derived.Handy
import Derived.Deep.QuietTactic
import Derived.BigQuiet
import Derived.Deep.RegionWith
import Derived.Test.YtgejgkbpbikadaaDoorCur
namespace Go.Proofs.YtgejgkbpbikadaaDoor
open Go.ChangeShapes Go.WideShapes Go.ChangeAt Go.RowKit
open M1
set_option linter.unusedVariables false
/-- what may be drawn for a modulus -/
def dmB (v : Int) : Bool := (decide (-1 ≤ v) && decide (v ≤ 268435457)) && (decide (v ≤ 134217729) || ([268435361, 268435009, 268434977, 268434721, 268434401, 268433761, 268433569, 268433441, 268433377, 268433057, 268435456, 268435457, 268435455] : List Int).contains v)
theorem dmB_of {v : Int} (h1 : -1 ≤ v) (h2 : v ≤ 134217729) : dmB v = true := by
  have h3 : v ≤ 268435457 := by omega
  simp [dmB, h1, h2, h3]
theorem dmB_out {v : Int} (h : dmB v = true) : -1 ≤ v ∧ v ≤ 268435457 := by
  simp only [dmB, Bool.and_eq_true, decide_eq_true_eq] at h
  exact h.1
set_option maxHeartbeats 1000000 in
theorem among_any {w0 : World} {code : Value} {len c B : Nat} {w : World} (h : Cur w0 code len c B w) (hB : B ≤ 274877906944) (hl : len ≤ 9223372036854775807) (b n cap : Nat) (P : Int → Prop) (hn : 2 ≤ n) (hn' : n ≤ 1000) (hb : b < w.heap.size) (hbc : b ≠ c)
    (hc : ∀ j, j < n → ∃ v : Int, P v ∧ w.cell? ⟨b, j, none⟩ = some (.int .i64 v)) :
    Calls Tryd.prog 13 #[.pointer (some ⟨c, 0, none⟩), .slice (some ⟨b, 0, none⟩) n cap] w fun e w' => (∃ v : Int, P v ∧ e = .returned (.int .i64 v)) ∧ Cur w0 code len c (B + 2) w' := by
  have c1 := pick_any h.rebase (by omega) hl (n : Int) (by omega) (by omega)
  have HC : Hid (Cur w0 code len c B w) := h
  have Hc : Hid (∀ j, j < n → ∃ v : Int, P v ∧ w.cell? ⟨b, j, none⟩ = some (.int .i64 v)) := hc
  clear h hc
  go_enter Tryd.func13, Tryd.ntmps13
  go_wp2_with fail
  refine c1.mono ?_
  rintro e w1 ⟨⟨v, ⟨hv0, hv1⟩, rfl⟩, C1⟩
  have HC1 : Hid (Cur w code len c (B + 2) w1) := C1
  clear C1 c1
  obtain ⟨k, rfl⟩ := Int.eq_ofNat_of_zero_le hv0
  obtain ⟨x, hx, hxc⟩ := Hc.out k (by omega)
  have hx1 : w1.cell? ⟨b, k, none⟩ = some (.int .i64 x) := by rw [HC1.out.kp _ _ hb hbc]; exact hxc
  clear hxc
  go_wp2_with fail
  go_ret
  exact ⟨⟨x, hx, rfl⟩, HC.out.trans HC1.out⟩
theorem smallC (w : World) (t : TypeId) : ∀ j, j < 9 → ∃ v : Int, (dmB v = true) ∧ (w.alloc (.cells #[.int .i64 97, .int .i64 193, .int .i64 257, .int .i64 353, .int .i64 449, .int .i64 577, .int .i64 641, .int .i64 673, .int .i64 769] t)).cell? ⟨w.heap.size, j, none⟩ = some (.int .i64 v) := by
  intro j hj
  rcases (show j = 0 ∨ j = 1 ∨ j = 2 ∨ j = 3 ∨ j = 4 ∨ j = 5 ∨ j = 6 ∨ j = 7 ∨ j = 8 by omega) with rfl | rfl | rfl | rfl | rfl | rfl | rfl | rfl | rfl
  · exact ⟨97, by decide, by simp⟩
  · exact ⟨193, by decide, by simp⟩
  · exact ⟨257, by decide, by simp⟩
  · exact ⟨353, by decide, by simp⟩
  · exact ⟨449, by decide, by simp⟩
  · exact ⟨577, by decide, by simp⟩
  · exact ⟨641, by decide, by simp⟩
  · exact ⟨673, by decide, by simp⟩
  · exact ⟨769, by decide, by simp⟩
theorem midC (w : World) (t : TypeId) : ∀ j, j < 5 → ∃ v : Int, (dmB v = true) ∧ (w.alloc (.cells #[.int .i64 3, .int .i64 5, .int .i64 17, .int .i64 13, .int .i64 31] t)).cell? ⟨w.heap.size, j, none⟩ = some (.int .i64 v) := by
  intro j hj
  rcases (show j = 0 ∨ j = 1 ∨ j = 2 ∨ j = 3 ∨ j = 4 by omega) with rfl | rfl | rfl | rfl | rfl
  · exact ⟨3, by decide, by simp⟩
  · exact ⟨5, by decide, by simp⟩
  · exact ⟨17, by decide, by simp⟩
  · exact ⟨13, by decide, by simp⟩
  · exact ⟨31, by decide, by simp⟩
theorem bigC (w : World) (t : TypeId) : ∀ j, j < 10 → ∃ v : Int, (dmB v = true) ∧ (w.alloc (.cells #[.int .i64 268435361, .int .i64 268435009, .int .i64 268434977, .int .i64 268434721, .int .i64 268434401, .int .i64 268433761, .int .i64 268433569, .int .i64 268433441, .int .i64 268433377, .int .i64 268433057] t)).cell? ⟨w.heap.size, j, none⟩ = some (.int .i64 v) := by
  intro j hj
  rcases (show j = 0 ∨ j = 1 ∨ j = 2 ∨ j = 3 ∨ j = 4 ∨ j = 5 ∨ j = 6 ∨ j = 7 ∨ j = 8 ∨ j = 9 by omega) with rfl | rfl | rfl | rfl | rfl | rfl | rfl | rfl | rfl | rfl
  · exact ⟨268435361, by decide, by simp⟩
  · exact ⟨268435009, by decide, by simp⟩
  · exact ⟨268434977, by decide, by simp⟩
  · exact ⟨268434721, by decide, by simp⟩
  · exact ⟨268434401, by decide, by simp⟩
  · exact ⟨268433761, by decide, by simp⟩
  · exact ⟨268433569, by decide, by simp⟩
  · exact ⟨268433441, by decide, by simp⟩
  · exact ⟨268433377, by decide, by simp⟩
  · exact ⟨268433057, by decide, by simp⟩
theorem modC (w : World) (t : TypeId) : ∀ j, j < 7 → ∃ v : Int, (dmB v = true) ∧ (w.alloc (.cells #[.int .i64 (-1), .int .i64 0, .int .i64 1, .int .i64 2, .int .i64 268435456, .int .i64 268435457, .int .i64 268435455] t)).cell? ⟨w.heap.size, j, none⟩ = some (.int .i64 v) := by
  intro j hj
  rcases (show j = 0 ∨ j = 1 ∨ j = 2 ∨ j = 3 ∨ j = 4 ∨ j = 5 ∨ j = 6 by omega) with rfl | rfl | rfl | rfl | rfl | rfl | rfl
  · exact ⟨-1, by decide, by simp⟩
  · exact ⟨0, by decide, by simp⟩
  · exact ⟨1, by decide, by simp⟩
  · exact ⟨2, by decide, by simp⟩
  · exact ⟨268435456, by decide, by simp⟩
  · exact ⟨268435457, by decide, by simp⟩
  · exact ⟨268435455, by decide, by simp⟩
set_option maxHeartbeats 1000000 in
theorem prime_any {w0 : World} {code : Value} {len c B : Nat} {w : World} (h : Cur w0 code len c B w) (hB : B ≤ 137438953472) (hl : len ≤ 9223372036854775807) :
    Calls Tryd.prog 31 #[.pointer (some ⟨c, 0, none⟩)] w fun e w' => (∃ v : Int, dmB v = true ∧ e = .returned (.int .i64 v)) ∧ Cur w0 code len c (B + 4) w' := by
  have c1 := pick_any h (by omega) hl 3 (by omega) (by omega)
  clear h
  go_enter Tryd.func31, Tryd.ntmps31
  go_wp2_with fail
  refine c1.mono ?_
  rintro e w1 ⟨⟨v, ⟨hv0, hv1⟩, rfl⟩, C1⟩
  have HC1 : Hid (Cur w0 code len c (B + 2) w1) := C1
  clear C1 c1
  rcases (show v = 0 ∨ v = 1 ∨ v = 2 by omega) with h0 | h0 | h0
  · have d0 : (v == 0) = true := by simp; omega
    clear h0
    go_wp2_with (go_at_call 37; go_in)
    refine (among_any (HC1.out.alloc _ _) (by omega) hl w1.heap.size 9 _ _ (by omega) (by omega) (by simp) (by have := HC1.out.hi; have := HC1.out.sz; omega) (smallC w1 _)).mono ?_
    rintro e w2 ⟨⟨x, hx, rfl⟩, C2⟩
    have HC2 : Hid (Cur w0 code len c (B + 2 + 2) w2) := C2
    clear C2
    have HX : Hid (dmB x = true) := hx
    clear hx
    go_wp2_with fail
    go_ret
    exact ⟨⟨x, HX.out, rfl⟩, HC2.out⟩
  · have d0 : (v == 0) = false := by simp; omega
    have d1 : (v == 1) = true := by simp; omega
    clear h0
    go_wp2_with fail
    refine (among_any (HC1.out.alloc _ _) (by omega) hl w1.heap.size 5 _ _ (by omega) (by omega) (by simp) (by have := HC1.out.hi; have := HC1.out.sz; omega) (midC w1 _)).mono ?_
    rintro e w2 ⟨⟨x, hx, rfl⟩, C2⟩
    have HC2 : Hid (Cur w0 code len c (B + 2 + 2) w2) := C2
    clear C2
    have HX : Hid (dmB x = true) := hx
    clear hx
    go_wp2_with fail
    go_ret
    exact ⟨⟨x, HX.out, rfl⟩, HC2.out⟩
  · have d0 : (v == 0) = false := by simp; omega
    have d1 : (v == 1) = false := by simp; omega
    clear h0
    go_wp2_with (go_at_call 38; go_in)
    refine (among_any (HC1.out.alloc _ _) (by omega) hl w1.heap.size 10 _ _ (by omega) (by omega) (by simp) (by have := HC1.out.hi; have := HC1.out.sz; omega) (bigC w1 _)).mono ?_
    rintro e w2 ⟨⟨x, hx, rfl⟩, C2⟩
    have HC2 : Hid (Cur w0 code len c (B + 2 + 2) w2) := C2
    clear C2
    have HX : Hid (dmB x = true) := hx
    clear hx
    go_wp2_with fail
    go_ret
    exact ⟨⟨x, HX.out, rfl⟩, HC2.out⟩
theorem mask28 (x : Int) : ∃ M : Int, (0 ≤ M ∧ M ≤ 268435455) ∧ bits BinOp.and IntKind.i64 x 268435455 = M := by
  refine ⟨_, ?_, rfl⟩
  show 0 ≤ IntKind.i64.wrap (((BitVec.ofInt 64 x &&& BitVec.ofInt 64 268435455).toNat : Nat) : Int) ∧ IntKind.i64.wrap (((BitVec.ofInt 64 x &&& BitVec.ofInt 64 268435455).toNat : Nat) : Int) ≤ 268435455
  have h : (BitVec.ofInt 64 x &&& BitVec.ofInt 64 268435455).toNat ≤ 268435455 := by
    rw [BitVec.toNat_and]
    exact Nat.le_trans Nat.and_le_right (by decide)
  rw [IntKind.wrap_i64]
  omega
set_option maxHeartbeats 1000000 in
theorem modulus_any {w0 : World} {code : Value} {len c B : Nat} {w : World} (h : Cur w0 code len c B w) (hB : B ≤ 68719476736) (hl : len ≤ 9223372036854775807) :
    Calls Tryd.prog 14 #[.pointer (some ⟨c, 0, none⟩)] w fun e w' => (∃ v : Int, dmB v = true ∧ e = .returned (.int .i64 v)) ∧ Cur w0 code len c (B + 12) w' := by
  have c1 := pick_any h (by omega) hl 6 (by omega) (by omega)
  clear h
  go_enter Tryd.func14, Tryd.ntmps14
  go_wp2_with fail
  refine c1.mono ?_
  rintro e w1 ⟨⟨v, ⟨hv0, hv1⟩, rfl⟩, C1⟩
  have HC1 : Hid (Cur w0 code len c (B + 2) w1) := C1
  clear C1 c1
  rcases (show v = 0 ∨ v = 1 ∨ v = 2 ∨ 3 ≤ v by omega) with h0 | h0 | h0 | h0
  · have d0 : (v == 0) = true := by simp; omega
    have c2 := pick_any HC1.out (by omega) hl 40 (by omega) (by omega)
    clear h0
    go_wp2_with fail
    refine c2.mono ?_
    rintro e w2 ⟨⟨x, ⟨hx0, hx1⟩, rfl⟩, C2⟩
    have HC2 : Hid (Cur w0 code len c (B + 2 + 2) w2) := C2
    clear C2 c2
    go_wp2_with fail
    go_ret
    exact ⟨⟨2 + x, dmB_of (by omega) (by omega), rfl⟩, HC2.out.mono (by omega)⟩
  · have d0 : (v == 0) = false := by simp; omega
    have d1 : (v == 1) = true := by simp; omega
    clear h0
    go_wp2_with fail
    refine (among_any (HC1.out.alloc _ _) (by omega) hl w1.heap.size 7 _ _ (by omega) (by omega) (by simp) (by have := HC1.out.hi; have := HC1.out.sz; omega) (modC w1 _)).mono ?_
    rintro e w2 ⟨⟨x, hx, rfl⟩, C2⟩
    have HC2 : Hid (Cur w0 code len c (B + 2 + 2) w2) := C2
    have HX : Hid (dmB x = true) := hx
    clear C2 hx
    go_wp2_with fail
    go_ret
    exact ⟨⟨x, HX.out, rfl⟩, HC2.out.mono (by omega)⟩
  · have d0 : (v == 0) = false := by simp; omega
    have d1 : (v == 1) = false := by simp; omega
    have d2 : (v == 2) = true := by simp; omega
    have c2 := wide_any HC1.out (by omega) hl
    clear h0
    go_wp2_with fail
    refine c2.mono ?_
    rintro e w2 ⟨⟨x, ⟨hx0, hx1⟩, rfl⟩, C2⟩
    have HC2 : Hid (Cur w0 code len c (B + 2 + 8) w2) := C2
    clear C2 c2
    obtain ⟨M, ⟨hM0, hM1⟩, rM⟩ := mask28 x
    go_wp2_with fail
    go_ret
    exact ⟨⟨2 + M / 2, dmB_of (by omega) (by omega), rfl⟩, HC2.out.mono (by omega)⟩
  · have d0 : (v == 0) = false := by simp; omega
    have d1 : (v == 1) = false := by simp; omega
    have d2 : (v == 2) = false := by simp; omega
    have c2 := prime_any HC1.out (by omega) hl
    clear h0
    go_wp2_with fail
    refine c2.mono ?_
    rintro e w2 ⟨⟨x, hx, rfl⟩, C2⟩
    have HC2 : Hid (Cur w0 code len c (B + 2 + 4) w2) := C2
    clear C2 c2
    have HX : Hid (dmB x = true) := hx
    clear hx
    go_wp2_with fail
    go_ret
    exact ⟨⟨x, HX.out, rfl⟩, HC2.out.mono (by omega)⟩
/-- v is a slice of len bytes that lie in w -/
def InW (w : World) (v : Value) (len : Nat) : Prop :=
  (∃ a cap, v = .slice a 0 cap ∧ len = 0) ∨ ∃ b o cap, v = .slice (some ⟨b, o, none⟩) len cap ∧ b < w.heap.size ∧ ∀ j, j < len → ∃ x : Int, (0 ≤ x ∧ x ≤ 255) ∧ w.cell? ⟨b, o + j, none⟩ = some (.int .u8 x)
theorem InW.grown {w w1 : World} {v : Value} {len : Nat} (h : InW w v len) (g : Grown w w1) : InW w1 v len := by
  rcases h with h1 | ⟨b, o, cap, e, hb, hbt⟩
  · exact Or.inl h1
  · refine Or.inr ⟨b, o, cap, e, Nat.lt_of_lt_of_le hb g.2.2, fun j hj => ?_⟩
    obtain ⟨x, hx, hc⟩ := hbt j hj
    exact ⟨x, hx, by rw [gcell g _ hb]; exact hc⟩
theorem InW.slice {w : World} {v : Value} {len : Nat} (h : InW w v len) : ∃ a cap, v = .slice a len cap := by
  rcases h with ⟨a, cap, e, e2⟩ | ⟨b, o, cap, e, _⟩
  · exact ⟨_, cap, by rw [e, e2]⟩
  · exact ⟨_, cap, e⟩
theorem frozen_new (w : World) (xs : Array Value) (t : TypeId) (j : Nat) : (w.alloc (.cells xs t)).frozen? ⟨w.heap.size, j, none⟩ = false := by simp
/-- a new cursor -/
theorem Cur.new {w : World} {code : Value} {len : Nat} (h : InW w code len) (t : TypeId) : Cur (w.alloc (.cells #[code, .int .i64 0, .int .u64 0] t)) code len w.heap.size 0 (w.alloc (.cells #[code, .int .i64 0, .int .u64 0] t)) := by
  have g : Grown w (w.alloc (.cells #[code, .int .i64 0, .int .u64 0] t)) := Grown.alloc (Grown.refl w) _ _
  refine ⟨fun W g _ => g, fun _ _ _ _ => rfl, fun _ _ _ => rfl, Nat.le_refl _, by simp, ?_, by simp, ⟨0, ⟨by omega, by omega⟩, by simp⟩, ⟨0, ⟨by omega, by omega⟩, by simp⟩, fun j => frozen_new _ _ _ _⟩
  rcases h with h1 | ⟨b, o, cap, e, hb, hbt⟩
  · exact Or.inl h1
  · refine Or.inr ⟨b, o, cap, e, ⟨Nat.lt_of_lt_of_le hb g.2.2, by omega⟩, fun j hj => ?_⟩
    obtain ⟨x, hx, hc⟩ := hbt j hj
    exact ⟨x, hx, by rw [gcell g _ hb]; exact hc⟩
theorem ordC (w : World) (t : TypeId) : ∀ j, j < 9 → ∃ v : Int, (1 ≤ v ∧ v ≤ 128) ∧ (w.alloc (.cells #[.int .i64 2, .int .i64 4, .int .i64 8, .int .i64 16, .int .i64 32, .int .i64 64, .int .i64 3, .int .i64 1, .int .i64 128] t)).cell? ⟨w.heap.size, j, none⟩ = some (.int .i64 v) := by
  intro j hj
  rcases (show j = 0 ∨ j = 1 ∨ j = 2 ∨ j = 3 ∨ j = 4 ∨ j = 5 ∨ j = 6 ∨ j = 7 ∨ j = 8 by omega) with rfl | rfl | rfl | rfl | rfl | rfl | rfl | rfl | rfl
  · exact ⟨2, by decide, by simp⟩
  · exact ⟨4, by decide, by simp⟩
  · exact ⟨8, by decide, by simp⟩
  · exact ⟨16, by decide, by simp⟩
  · exact ⟨32, by decide, by simp⟩
  · exact ⟨64, by decide, by simp⟩
  · exact ⟨3, by decide, by simp⟩
  · exact ⟨1, by decide, by simp⟩
  · exact ⟨128, by decide, by simp⟩
set_option maxHeartbeats 1000000 in
theorem drawRoot_any (code : Value) (len : Nat) (w : World) (h : InW w code len) (hl : len ≤ 9223372036854775807) :
    Calls Tryd.prog 6 #[code] w fun e w' => (∃ p n : Int, dmB p = true ∧ (1 ≤ n ∧ n ≤ 128) ∧ e = .returned (.tuple #[.int .i64 p, .int .i64 n])) ∧ Grown w w' := by
  obtain ⟨a0, cap0, rfl⟩ := h.slice
  have C0 := fun t => Cur.new h t
  have HC0 : Hid (∀ t, Cur (w.alloc (.cells #[.slice a0 len cap0, .int .i64 0, .int .u64 0] t)) (.slice a0 len cap0) len w.heap.size 0 (w.alloc (.cells #[.slice a0 len cap0, .int .i64 0, .int .u64 0] t))) := C0
  have HO : Hid (∀ t t', ∀ j, j < 9 → ∃ v : Int, (1 ≤ v ∧ v ≤ 128) ∧ ((w.alloc (.cells #[.slice a0 len cap0, .int .i64 0, .int .u64 0] t)).alloc (.cells #[.int .i64 2, .int .i64 4, .int .i64 8, .int .i64 16, .int .i64 32, .int .i64 64, .int .i64 3, .int .i64 1, .int .i64 128] t')).cell? ⟨w.heap.size + 1, j, none⟩ = some (.int .i64 v)) := fun t t' j hj => by
    have := ordC (w.alloc (.cells #[.slice a0 len cap0, .int .i64 0, .int .u64 0] t)) t' j hj
    simpa using this
  clear h C0
  go_enter Tryd.func6, Tryd.ntmps6
  go_wp2_with fail
  refine (among_any ((HC0.out _).alloc _ _) (by omega) hl (w.heap.size + 1) 9 _ (fun v => 1 ≤ v ∧ v ≤ 128) (by omega) (by omega) (by simp) (by omega) (HO.out _ _)).mono ?_
  rintro e w1 ⟨⟨n, hn, rfl⟩, C1⟩
  have HC1 : Hid (Cur _ (.slice a0 len cap0) len w.heap.size 2 w1) := C1
  clear C1 HO HC0
  go_wp2_with fail
  refine (modulus_any HC1.out (by omega) hl).mono ?_
  rintro e w2 ⟨⟨p, hp, rfl⟩, C2⟩
  have HC2 : Hid (Cur _ (.slice a0 len cap0) len w.heap.size 14 w2) := C2
  have HX : Hid (dmB p = true) := hp
  clear C2 hp
  go_wp2_with fail
  go_ret2
  exact ⟨⟨p, n, HX.out, hn, rfl⟩, HC2.out.gr w (Grown.alloc (Grown.refl _) _ _) (Nat.le_refl _)⟩
end Go.Proofs.YtgejgkbpbikadaaDoor
