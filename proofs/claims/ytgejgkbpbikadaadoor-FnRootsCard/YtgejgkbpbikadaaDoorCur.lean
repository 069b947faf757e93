/- Proved: contracts of the cursor that draws numbers out of bytes: some number in its range is told, nothing panics, and nothing but the cursor changes. -/
import Derived.Test.YtgejgkbpbikadaaDoorRows
import Derived.WalkKit
import Derived.ProofKit
import Derived.OpenShut
import Derived.Handy
import Derived.Deep.QuietTactic
import Derived.BigQuiet
import Derived.Test.YtgejgkbpbikadaaDoorBoth
namespace Go.Proofs.YtgejgkbpbikadaaDoor
open Go.ChangeShapes Go.WideShapes Go.ChangeAt Go.RowKit
open M1
set_option linter.unusedVariables false
/-- v is a slice of len bytes that lie in w, outside block c -/
def Bts (w : World) (c : Nat) (v : Value) (len : Nat) : Prop :=
  (∃ a cap, v = .slice a 0 cap ∧ len = 0) ∨ ∃ b o cap, v = .slice (some ⟨b, o, none⟩) len cap ∧ (b < w.heap.size ∧ b ≠ c) ∧ ∀ j, j < len → ∃ x : Int, (0 ≤ x ∧ x ≤ 255) ∧ w.cell? ⟨b, o + j, none⟩ = some (.int .u8 x)
/-- a cursor in block c of w; what lay in w0 outside that block lies in w as it did; the cursor has gone at most B bytes far -/
structure Cur (w0 : World) (code : Value) (len c B : Nat) (w : World) : Prop where
  gr : ∀ W, Grown W w0 → W.heap.size ≤ c → Grown W w
  kp : ∀ b o, b < w0.heap.size → b ≠ c → w.cell? ⟨b, o, none⟩ = w0.cell? ⟨b, o, none⟩
  kf : ∀ b o, b < w0.heap.size → w.frozen? ⟨b, o, none⟩ = w0.frozen? ⟨b, o, none⟩
  sz : w0.heap.size ≤ w.heap.size
  hi : c < w0.heap.size
  bts : Bts w0 c code len
  code : w.cell? ⟨c, 0, none⟩ = some code
  at_ : ∃ n : Int, (0 ≤ n ∧ n ≤ (B : Int)) ∧ w.cell? ⟨c, 1, none⟩ = some (.int .i64 n)
  seed : ∃ s : Int, (0 ≤ s ∧ s ≤ 18446744073709551615) ∧ w.cell? ⟨c, 2, none⟩ = some (.int .u64 s)
  fr : ∀ j, w.frozen? ⟨c, j, none⟩ = false
theorem Cur.mono {w0 : World} {code : Value} {len c B B' : Nat} {w : World} (h : Cur w0 code len c B w) (hB : B ≤ B') : Cur w0 code len c B' w :=
  ⟨h.gr, h.kp, h.kf, h.sz, h.hi, h.bts, h.code, by obtain ⟨n, h1, h2⟩ := h.at_; exact ⟨n, ⟨h1.1, by omega⟩, h2⟩, h.seed, h.fr⟩
theorem Cur.drewN {w0 : World} {code : Value} {len c B : Nat} {w : World} (h : Cur w0 code len c B w) (n : Nat) : Cur w0 code len c B (w.drewN n) :=
  ⟨h.gr, h.kp, h.kf, h.sz, h.hi, h.bts, h.code, h.at_, h.seed, h.fr⟩
/-- the cursor seen from the world as it stands -/
theorem Cur.rebase {w0 : World} {code : Value} {len c B : Nat} {w : World} (h : Cur w0 code len c B w) : Cur w code len c B w := by
  refine ⟨fun W g _ => g, fun _ _ _ _ => rfl, fun _ _ _ => rfl, Nat.le_refl _, Nat.lt_of_lt_of_le h.hi h.sz, ?_, h.code, h.at_, h.seed, h.fr⟩
  rcases h.bts with h1 | ⟨b, o, cap, e, ⟨hb, hne⟩, hbt⟩
  · exact Or.inl h1
  · refine Or.inr ⟨b, o, cap, e, ⟨Nat.lt_of_lt_of_le hb h.sz, hne⟩, fun j hj => ?_⟩
    obtain ⟨x, hx, hxc⟩ := hbt j hj
    exact ⟨x, hx, by rw [h.kp _ _ hb hne]; exact hxc⟩
theorem Cur.trans {w0 : World} {code : Value} {len c B B' : Nat} {w w' : World} (h : Cur w0 code len c B w) (k : Cur w code len c B' w') : Cur w0 code len c B' w' :=
  ⟨fun W g hc => k.gr W (h.gr W g hc) hc, fun b o hb hne => (k.kp b o (Nat.lt_of_lt_of_le hb h.sz) hne).trans (h.kp b o hb hne), fun b o hb => (k.kf b o (Nat.lt_of_lt_of_le hb h.sz)).trans (h.kf b o hb), Nat.le_trans h.sz k.sz, h.hi, h.bts, k.code, k.at_, k.seed, k.fr⟩
/-- a new block beside the cursor -/
theorem Cur.alloc {w0 : World} {code : Value} {len c B : Nat} {w : World} (h : Cur w0 code len c B w) (xs : Array Value) (t : TypeId) : Cur w0 code len c B (w.alloc (.cells xs t)) := by
  have hcw := Nat.lt_of_lt_of_le h.hi h.sz
  have e : ∀ b o, b < w.heap.size → (w.alloc (.cells xs t)).cell? ⟨b, o, none⟩ = w.cell? ⟨b, o, none⟩ := fun b o hb => gcell (Grown.alloc (Grown.refl w) xs t) o hb
  have f : ∀ a, (w.alloc (.cells xs t)).frozen? a = w.frozen? a := (Grown.alloc (Grown.refl w) xs t).2.1
  refine ⟨fun W g hc => Grown.alloc (h.gr W g hc) _ _, fun b o hb hne => by rw [e b o (Nat.lt_of_lt_of_le hb h.sz)]; exact h.kp b o hb hne, fun b o hb => by rw [f]; exact h.kf b o hb, ?_, h.hi, h.bts, by rw [e _ _ hcw]; exact h.code, ?_, ?_, fun j => by rw [f]; exact h.fr j⟩
  · have := h.sz; simp; omega
  · obtain ⟨n, h1, h2⟩ := h.at_; exact ⟨n, h1, by rw [e _ _ hcw]; exact h2⟩
  · obtain ⟨n, h1, h2⟩ := h.seed; exact ⟨n, h1, by rw [e _ _ hcw]; exact h2⟩
theorem size_setCell (w : World) (a : Addr) (v : Value) : (w.setCell a v).heap.size = w.heap.size := by simp [World.setCell]
theorem cell_ne (w : World) (a b : Addr) (v : Value) (h : a ≠ b) : (w.setCell a v).cell? b = w.cell? b := World.cell?_setCell_other _ _ _ _ h
theorem Cur.upd {w0 : World} {code : Value} {len c B B' : Nat} {w : World} (h : Cur w0 code len c B w) (n s : Int) (hn : 0 ≤ n) (hn' : n ≤ (B' : Int)) (hs : 0 ≤ s) (hs' : s ≤ 18446744073709551615) :
    Cur w0 code len c B' ((w.setCell ⟨c, 1, none⟩ (.int .i64 n)).setCell ⟨c, 2, none⟩ (.int .u64 s)) := by
  obtain ⟨n0, _, hn0⟩ := h.at_
  obtain ⟨s0, _, hs0⟩ := h.seed
  refine ⟨fun W g hc => Grown.setCell (Grown.setCell (h.gr W g hc) hc _) hc _, fun b o hb hne => by rw [cell_ne _ _ _ _ (fun e => hne (by cases e; rfl)), cell_ne _ _ _ _ (fun e => hne (by cases e; rfl))]; exact h.kp b o hb hne, fun b o hb => by simp [h.kf b o hb], by rw [size_setCell, size_setCell]; exact h.sz, h.hi, h.bts, ?_, ⟨n, ⟨hn, hn'⟩, ?_⟩, ⟨s, ⟨hs, hs'⟩, ?_⟩, ?_⟩
  · rw [cell_ne _ _ _ _ (by simp), cell_ne _ _ _ _ (by simp)]; exact h.code
  · rw [cell_ne _ _ _ _ (by simp)]; exact World.cell?_setCell_same _ _ _ hn0
  · exact World.cell?_setCell_same _ _ _ (by rw [cell_ne _ _ _ _ (by simp)]; exact hs0)
  · intro j; simp [h.fr j]
theorem mask255 (S : Int) (h0 : 0 ≤ S) (h1 : S ≤ 18446744073709551615) : ∃ M : Int, (0 ≤ M ∧ M ≤ 255) ∧ bits BinOp.and IntKind.u64 (S / 1099511627776) 255 = M := by
  have e : S / 1099511627776 = ((S / 1099511627776).toNat : Int) := by omega
  have h := bits_and_u64_nat (S / 1099511627776).toNat 255 (by omega) (by omega)
  rw [← e] at h
  have e2 : (S / 1099511627776).toNat &&& 255 = (S / 1099511627776).toNat % 256 := Nat.and_two_pow_sub_one_eq_mod _ 8
  rw [e2] at h
  exact ⟨_, ⟨by omega, by omega⟩, h⟩
theorem seed_next (s x : Int) : ∃ S : Int, (0 ≤ S ∧ S ≤ 18446744073709551615) ∧ IntKind.u64.wrap (IntKind.u64.wrap (IntKind.u64.wrap (s * 6364136223846793005) + x) + 1442695040888963407) = S := by
  refine ⟨_, ?_, rfl⟩
  simp only [IntKind.wrap_u64]
  omega
set_option maxHeartbeats 1000000 in
theorem next_any {w0 : World} {code : Value} {len c B : Nat} {w : World} (h : Cur w0 code len c B w) (hB : B ≤ 1099511627776) (hl : len ≤ 9223372036854775807) :
    Calls Tryd.prog 36 #[.pointer (some ⟨c, 0, none⟩)] w fun e w' => (∃ v : Int, (0 ≤ v ∧ v ≤ 255) ∧ e = .returned (.int .i64 v)) ∧ Cur w0 code len c (B + 1) w' := by
  obtain ⟨n, ⟨hn0, hn1⟩, hn⟩ := h.at_
  obtain ⟨s, ⟨hs0, hs1⟩, hs⟩ := h.seed
  have hcode := h.code
  have f1 := h.fr 1
  have f2 := h.fr 2
  rcases h.bts with ⟨a, cap, rfl, rfl⟩ | ⟨b, o, cap, rfl, ⟨hb, hne⟩, hbt⟩
  · obtain ⟨S, ⟨hS0, hS1⟩, rS⟩ := seed_next s 0
    obtain ⟨M, ⟨hM0, hM1⟩, rM⟩ := mask255 S hS0 hS1
    simp only [Int.add_zero] at rS
    have HC : Hid (Cur w0 (.slice a 0 cap) 0 c B w) := h
    clear h
    have d1 : decide (n < 0) = false := by simp; omega
    have d2 : decide (n + 1 ≤ 0) = false := by simp; omega
    go_enter Tryd.func36, Tryd.ntmps36
    go_wp2_with fail
    go_quiet (fail)
    go_wp2_with fail
    go_quiet (fail)
    go_wp2_with fail
    go_ret
    exact ⟨⟨M, ⟨hM0, hM1⟩, rfl⟩, ((HC.out.drewN _).upd (n + 1) S (by omega) (by omega) hS0 hS1).drewN _⟩
  · by_cases hlt : n < (len : Int)
    · obtain ⟨x, ⟨hx0, hx1⟩, hx⟩ := hbt n.toNat (by omega)
      obtain ⟨S, ⟨hS0, hS1⟩, rS⟩ := seed_next s x
      have hxw : w.cell? ⟨b, o + n.toNat, none⟩ = some (.int .u8 x) := by rw [h.kp _ _ hb hne]; exact hx
      have HC : Hid (Cur w0 (.slice (some ⟨b, o, none⟩) len cap) len c B w) := h
      clear h hx hbt
      have d1 : decide (n < (len : Int)) = true := by simp; omega
      have d2 : decide (n + 1 ≤ (len : Int)) = true := by simp; omega
      go_enter Tryd.func36, Tryd.ntmps36
      go_wp2_with fail
      go_quiet (fail)
      go_wp2_with fail
      go_quiet (fail)
      go_wp2_with fail
      go_quiet (fail)
      go_wp2_with fail
      go_ret
      exact ⟨⟨x, ⟨hx0, hx1⟩, rfl⟩, ((HC.out.drewN _).upd (n + 1) S (by omega) (by omega) hS0 hS1).drewN _⟩
    · obtain ⟨S, ⟨hS0, hS1⟩, rS⟩ := seed_next s 0
      obtain ⟨M, ⟨hM0, hM1⟩, rM⟩ := mask255 S hS0 hS1
      simp only [Int.add_zero] at rS
      have HC : Hid (Cur w0 (.slice (some ⟨b, o, none⟩) len cap) len c B w) := h
      clear h hbt
      have d1 : decide (n < (len : Int)) = false := by simp; omega
      have d2 : decide (n + 1 ≤ (len : Int)) = false := by simp; omega
      go_enter Tryd.func36, Tryd.ntmps36
      go_wp2_with fail
      go_quiet (fail)
      go_wp2_with fail
      go_quiet (fail)
      go_wp2_with fail
      go_ret
      exact ⟨⟨M, ⟨hM0, hM1⟩, rfl⟩, ((HC.out.drewN _).upd (n + 1) S (by omega) (by omega) hS0 hS1).drewN _⟩
set_option maxHeartbeats 1000000 in
theorem pick_any {w0 : World} {code : Value} {len c B : Nat} {w : World} (h : Cur w0 code len c B w) (hB : B ≤ 549755813888) (hl : len ≤ 9223372036854775807) (n : Int) (hn : 2 ≤ n) (hn' : n ≤ 60000) :
    Calls Tryd.prog 29 #[.pointer (some ⟨c, 0, none⟩), .int .i64 n] w fun e w' => (∃ v : Int, (0 ≤ v ∧ v < n) ∧ e = .returned (.int .i64 v)) ∧ Cur w0 code len c (B + 2) w' := by
  have c1 := fun W (h : Cur w0 code len c B W) => next_any h (by omega) hl
  have c2 := fun W (h : Cur w0 code len c (B + 1) W) => next_any h (by omega) hl
  have HC : Hid (Cur w0 code len c B w) := h
  clear h
  have hnn : ¬ n = 0 := by omega
  by_cases hg : 200 < n
  · have d1 : decide (200 < n) = true := by simp; omega
    go_enter Tryd.func29, Tryd.ntmps29
    go_wp2_with fail
    refine (c1 _ HC.out).mono ?_
    rintro e w1 ⟨⟨v, ⟨hv0, hv1⟩, rfl⟩, C1⟩
    have HC1 : Hid (Cur w0 code len c (B + 1) w1) := C1
    clear C1
    go_wp2_with fail
    refine (c2 _ HC1.out).mono ?_
    rintro e w2 ⟨⟨u, ⟨hu0, hu1⟩, rfl⟩, C2⟩
    have HC2 : Hid (Cur w0 code len c (B + 2) w2) := C2
    clear C2
    have m0 := Int.emod_nonneg (v * 256 + u) (show n ≠ 0 by omega)
    have m1 := Int.emod_lt_of_pos (v * 256 + u) (show 0 < n by omega)
    go_wp2_with fail
    go_ret
    exact ⟨⟨(v * 256 + u) % n, ⟨m0, m1⟩, rfl⟩, HC2.out⟩
  · have d1 : decide (200 < n) = false := by simp; omega
    go_enter Tryd.func29, Tryd.ntmps29
    go_wp2_with fail
    refine (c1 _ HC.out).mono ?_
    rintro e w1 ⟨⟨v, ⟨hv0, hv1⟩, rfl⟩, C1⟩
    have HC1 : Hid (Cur w0 code len c (B + 1) w1) := C1
    clear C1
    have m0 := Int.emod_nonneg v (show n ≠ 0 by omega)
    have m1 := Int.emod_lt_of_pos v (show 0 < n by omega)
    go_wp2_with fail
    go_ret
    exact ⟨⟨v % n, ⟨m0, m1⟩, rfl⟩, HC1.out.mono (by omega)⟩
theorem or_bd (a b : Int) : -9223372036854775808 ≤ bits BinOp.or IntKind.i64 a b ∧ bits BinOp.or IntKind.i64 a b ≤ 9223372036854775807 := by
  show -9223372036854775808 ≤ IntKind.i64.wrap (((BitVec.ofInt 64 a ||| BitVec.ofInt 64 b).toNat : Nat) : Int) ∧ IntKind.i64.wrap (((BitVec.ofInt 64 a ||| BitVec.ofInt 64 b).toNat : Nat) : Int) ≤ 9223372036854775807
  rw [IntKind.wrap_i64]
  omega
set_option maxHeartbeats 1000000 in
theorem wide_any {w0 : World} {code : Value} {len c B : Nat} {w : World} (h : Cur w0 code len c B w) (hB : B ≤ 549755813888) (hl : len ≤ 9223372036854775807) :
    Calls Tryd.prog 30 #[.pointer (some ⟨c, 0, none⟩)] w fun e w' => (∃ v : Int, (-9223372036854775808 ≤ v ∧ v ≤ 9223372036854775807) ∧ e = .returned (.int .i64 v)) ∧ Cur w0 code len c (B + 8) w' := by
  have HC : Hid (Cur w0 code len c (B + 0) w) := h
  clear h
  go_enter Tryd.func30, Tryd.ntmps30
  go_wp2_with fail
  go_loopw [3, 4] (fun n i W => ∃ (n' : Int) (i' : Nat), i' ≤ 8 ∧ (-9223372036854775808 ≤ n' ∧ n' ≤ 9223372036854775807) ∧ n = .int .i64 n' ∧ i = .int .i64 i' ∧ Hid (Cur w0 code len c (B + i') W)) (fun _ i _ => 8 - (intOf i).toNat)
  case atStart => exact ⟨0, 0, by omega, ⟨by omega, by omega⟩, rfl, rfl, HC⟩
  case round =>
    obtain ⟨n, i, hi, ⟨hn0, hn1⟩, rfl, rfl, HC1⟩ := hrel
    clear HC
    by_cases hlt : i < 8
    · have hd : decide ((i : Int) < 8) = true := by simp; omega
      have c1 := next_any HC1.out (by omega) hl
      go_wp2_with fail
      refine c1.mono ?_
      rintro e w1 ⟨⟨v, ⟨hv0, hv1⟩, rfl⟩, C1⟩
      have HC2 : Hid (Cur w0 code len c (B + (i + 1)) w1) := C1
      clear C1 HC1
      go_wp2_with fail
      exact ⟨⟨_, i + 1, by omega, or_bd _ _, rfl, by go_num, HC2⟩, by simp [intOf]; omega⟩
    · have hd : decide ((i : Int) < 8) = false := by simp; omega
      go_wp2_with fail
      go_ret
      exact ⟨⟨n, ⟨hn0, hn1⟩, rfl⟩, HC1.out.mono (by omega)⟩
end Go.Proofs.YtgejgkbpbikadaaDoor
