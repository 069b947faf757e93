/- Proved: contracts of the cursor that draws numbers out of bytes (next, pick, one, among, wide): some number in its range is told, nothing panics, and nothing but the cursor changes. -/
import Derived.Test.YtglbegbhekcddaaDoorRw01
import Derived.Laws.Bits64b
namespace Go.Proofs.YtglbegbhekcddaaDoor
open Go.ChangeShapes Go.WideShapes Go.ChangeAt Go.RowKit
set_option linter.unusedVariables false
set_option linter.unusedSimpArgs false
def Bys (w : World) (c : Nat) (v : Value) (len : Nat) : Prop :=
  (∃ a cap, v = .slice a 0 cap ∧ len = 0) ∨ ∃ b o cap, v = .slice (some ⟨b, o, none⟩) len cap ∧ (b < w.heap.size ∧ b < c) ∧ ∀ j, j < len → ∃ x : Int, (0 ≤ x ∧ x ≤ 255) ∧ w.cell? ⟨b, o + j, none⟩ = some (.int .u8 x)
structure Cu (w : World) (code : Value) (len c B : Nat) : Prop where
  cells : ∃ n s : Int, (0 ≤ n ∧ n ≤ (B : Int)) ∧ (0 ≤ s ∧ s ≤ 18446744073709551615) ∧ w.heap[c]? = some (.cells #[code, .int .i64 n, .int .u64 s] 51 (0, 0))
  bts : Bys w c code len
theorem Cu.lt {w : World} {code : Value} {len c B : Nat} (h : Cu w code len c B) : c < w.heap.size := by
  obtain ⟨n, s, _, _, e⟩ := h.cells
  exact (Array.getElem?_eq_some_iff.1 e).1
theorem Cu.mono {w : World} {code : Value} {len c B B' : Nat} (h : Cu w code len c B) (hB : B ≤ B') : Cu w code len c B' := by
  obtain ⟨n, s, h1, h2, e⟩ := h.cells
  exact ⟨⟨n, s, ⟨h1.1, by omega⟩, h2, e⟩, h.bts⟩
theorem Bys.kept {w w' : World} {c : Nat} {v : Value} {len : Nat} (h : Bys w c v len) (hs : w.heap.size ≤ w'.heap.size) (hk : ∀ b, b < w.heap.size → b < c → w'.heap[b]? = w.heap[b]?) : Bys w' c v len := by
  rcases h with h1 | ⟨b, o, cap, e, ⟨hb, hne⟩, hbt⟩
  · exact Or.inl h1
  · refine Or.inr ⟨b, o, cap, e, ⟨Nat.lt_of_lt_of_le hb hs, hne⟩, fun j hj => ?_⟩
    obtain ⟨x, hx, hxc⟩ := hbt j hj
    exact ⟨x, hx, (World.cell?_of_block (hk b hb hne)).trans hxc⟩
theorem Cu.kept {w w' : World} {code : Value} {len c B : Nat} (h : Cu w code len c B) (hs : w.heap.size ≤ w'.heap.size) (hk : ∀ b, b ≤ c → w'.heap[b]? = w.heap[b]?) : Cu w' code len c B := by
  obtain ⟨n, s, h1, h2, e⟩ := h.cells
  exact ⟨⟨n, s, h1, h2, (hk c (Nat.le_refl _)).trans e⟩, h.bts.kept hs (fun b _ hb => hk b (Nat.le_of_lt hb))⟩
theorem Cu.grown {w w' : World} {code : Value} {len c B : Nat} {ob : Option Nat} (h : Cu w code len c B) (g : w.grownBy w' ob) (hk : ∀ j, ob = some j → c < j) : Cu w' code len c B :=
  h.kept g.size (fun b hb => g.block b (Nat.lt_of_le_of_lt hb h.lt) (fun e => by have := hk b e.symm; omega))
theorem Cu.old {w w' : World} {code : Value} {len c B : Nat} (h : Cu w code len c B) (g : Old w w') : Cu w' code len c B := by
  obtain ⟨n, s, h1, h2, e⟩ := h.cells
  exact ⟨⟨n, s, h1, h2, (g.block c h.lt).trans e⟩, h.bts.kept g.size (fun b hb _ => g.block b hb)⟩
theorem Cu.drew {w : World} {code : Value} {len c B : Nat} (h : Cu w code len c B) (n : Nat) : Cu (w.drewN n) code len c B := h.old ((Old.refl w).drewN n)
theorem Cu.upd {w : World} {code : Value} {len c B B' : Nat} (h : Cu w code len c B) (n s : Int) (hn : 0 ≤ n) (hn' : n ≤ (B' : Int)) (hs : 0 ≤ s) (hs' : s ≤ 18446744073709551615) :
    Cu ((w.setCell ⟨c, 1, none⟩ (.int .i64 n)).setCell ⟨c, 2, none⟩ (.int .u64 s)) code len c B' := by
  obtain ⟨n0, s0, _, _, e⟩ := h.cells
  have e1 := heap_setCell_same w c 1 _ _ (.int .i64 n) e
  refine ⟨⟨n, s, ⟨hn, hn'⟩, ⟨hs, hs'⟩, ?_⟩, h.bts.kept ?_ ?_⟩
  · rw [heap_setCell_same _ c 2 _ _ _ e1]; rfl
  · rw [World.size_setCell, World.size_setCell]; exact Nat.le_refl _
  · intro b hb hne
    rw [heap_setCell_other _ _ _ _ (by show b ≠ c; omega), heap_setCell_other _ _ _ _ (by show b ≠ c; omega)]
theorem chg_two (w : World) (c : Nat) (x y : Value) : Chg w ((w.setCell ⟨c, 1, none⟩ x).setCell ⟨c, 2, none⟩ y) c (c + 1) :=
  ⟨rfl, rfl, rfl, by rw [World.size_setCell, World.size_setCell]; exact Nat.le_refl _, fun k hk ho => by rw [heap_setCell_other _ _ _ _ (by show k ≠ c; omega), heap_setCell_other _ _ _ _ (by show k ≠ c; omega)]⟩
theorem mask8 (S : Int) (h0 : 0 ≤ S) (h1 : S ≤ 18446744073709551615) : ∃ M : Int, (0 ≤ M ∧ M ≤ 255) ∧ bits BinOp.and IntKind.u64 (S / 1099511627776) 255 = M := by
  have e : S / 1099511627776 = ((S / 1099511627776).toNat : Int) := by omega
  have h := bits_and_u64_nat (S / 1099511627776).toNat 255 (by omega) (by omega)
  rw [← e] at h
  have e2 : (S / 1099511627776).toNat &&& 255 = (S / 1099511627776).toNat % 256 := Nat.and_two_pow_sub_one_eq_mod _ 8
  rw [e2] at h
  exact ⟨_, ⟨by omega, by omega⟩, h⟩
theorem seedN (s x : Int) : ∃ S : Int, (0 ≤ S ∧ S ≤ 18446744073709551615) ∧ IntKind.u64.wrap (IntKind.u64.wrap (IntKind.u64.wrap (s * 6364136223846793005) + x) + 1442695040888963407) = S := by
  refine ⟨_, ?_, rfl⟩
  simp only [IntKind.wrap_u64]
  omega
def CuP (Z : Int → Prop) (w : World) (code : Value) (len c B : Nat) (e : Ending) (w' : World) : Prop :=
  (∃ v : Int, Z v ∧ e = .returned (.int .i64 v)) ∧ Chg w w' c (c + 1) ∧ Cu w' code len c B
theorem cu_drew (w : World) (n lo hi : Nat) : Chg w (w.drewN n) lo hi := ((Old.refl w).drewN n).toChg lo hi
set_option maxRecDepth 100000 in
set_option maxHeartbeats 2000000 in
theorem next_c {w : World} {code : Value} {len c B : Nat} (h : Cu w code len c B) (hB : B ≤ 1099511627776) (hl : len ≤ 9223372036854775807) :
    Calls Tryd.prog 57 #[.pointer (some ⟨c, 0, none⟩)] w fun e w' => CuP (fun v => 0 ≤ v ∧ v ≤ 255) w code len c (B + 1) e w' := by
  obtain ⟨n, s, ⟨hn0, hn1⟩, ⟨hs0, hs1⟩, hcl⟩ := h.cells
  have hcode : w.cell? ⟨c, 0, none⟩ = some code := by rw [cell_of_row _ _ _ _ _ _ hcl]; rfl
  have hn : w.cell? ⟨c, 1, none⟩ = some (.int .i64 n) := by rw [cell_of_row _ _ _ _ _ _ hcl]; rfl
  have hs : w.cell? ⟨c, 2, none⟩ = some (.int .u64 s) := by rw [cell_of_row _ _ _ _ _ _ hcl]; rfl
  have f1 : w.frozen? ⟨c, 1, none⟩ = false := frozen_of_row _ _ _ _ _ hcl
  have f2 : w.frozen? ⟨c, 2, none⟩ = false := frozen_of_row _ _ _ _ _ hcl
  clear hcl
  rcases h.bts with ⟨a, cap, rfl, rfl⟩ | ⟨b, o, cap, rfl, ⟨hb, hne⟩, hbt⟩
  · obtain ⟨S, ⟨hS0, hS1⟩, rS⟩ := seedN s 0
    obtain ⟨M, ⟨hM0, hM1⟩, rM⟩ := mask8 S hS0 hS1
    simp only [Int.add_zero] at rS
    have HC : Hid (Cu w (.slice a 0 cap) 0 c B) := h
    clear h
    have d1 : decide (n < 0) = false := by simp; omega
    have d2 : decide (n + 1 ≤ 0) = false := by simp; omega
    go_enter Tryd.func57, Tryd.ntmps57
    go_wp2_with fail
    go_quiet (fail)
    go_wp2_with fail
    go_quiet (fail)
    go_wp2_with fail
    go_ret
    exact ⟨⟨M, ⟨hM0, hM1⟩, rfl⟩, ((cu_drew _ _ _ _).trans (chg_two _ c _ _)).trans (cu_drew _ _ _ _), ((HC.out.drew _).upd (n + 1) S (by omega) (by omega) hS0 hS1).drew _⟩
  · by_cases hlt : n < (len : Int)
    · obtain ⟨x, ⟨hx0, hx1⟩, hx⟩ := hbt n.toNat (by omega)
      obtain ⟨S, ⟨hS0, hS1⟩, rS⟩ := seedN s x
      have HC : Hid (Cu w (.slice (some ⟨b, o, none⟩) len cap) len c B) := h
      clear h hbt
      have d1 : decide (n < (len : Int)) = true := by simp; omega
      have d2 : decide (n + 1 ≤ (len : Int)) = true := by simp; omega
      go_enter Tryd.func57, Tryd.ntmps57
      go_wp2_with fail
      go_quiet (fail)
      go_wp2_with fail
      go_quiet (fail)
      go_wp2_with fail
      go_quiet (fail)
      go_wp2_with fail
      go_ret
      exact ⟨⟨x, ⟨hx0, hx1⟩, rfl⟩, ((cu_drew _ _ _ _).trans (chg_two _ c _ _)).trans (cu_drew _ _ _ _), ((HC.out.drew _).upd (n + 1) S (by omega) (by omega) hS0 hS1).drew _⟩
    · obtain ⟨S, ⟨hS0, hS1⟩, rS⟩ := seedN s 0
      obtain ⟨M, ⟨hM0, hM1⟩, rM⟩ := mask8 S hS0 hS1
      simp only [Int.add_zero] at rS
      have HC : Hid (Cu w (.slice (some ⟨b, o, none⟩) len cap) len c B) := h
      clear h hbt
      have d1 : decide (n < (len : Int)) = false := by simp; omega
      have d2 : decide (n + 1 ≤ (len : Int)) = false := by simp; omega
      go_enter Tryd.func57, Tryd.ntmps57
      go_wp2_with fail
      go_quiet (fail)
      go_wp2_with fail
      go_quiet (fail)
      go_wp2_with fail
      go_ret
      exact ⟨⟨M, ⟨hM0, hM1⟩, rfl⟩, ((cu_drew _ _ _ _).trans (chg_two _ c _ _)).trans (cu_drew _ _ _ _), ((HC.out.drew _).upd (n + 1) S (by omega) (by omega) hS0 hS1).drew _⟩
set_option maxRecDepth 100000 in
set_option maxHeartbeats 2000000 in
theorem pick_c {w : World} {code : Value} {len c B : Nat} (h : Cu w code len c B) (hB : B ≤ 549755813888) (hl : len ≤ 9223372036854775807) (n : Int) (hn : 2 ≤ n) (hn' : n ≤ 60000) :
    Calls Tryd.prog 42 #[.pointer (some ⟨c, 0, none⟩), .int .i64 n] w fun e w' => CuP (fun v => 0 ≤ v ∧ v < n) w code len c (B + 2) e w' := by
  have c1 := next_c h (by omega) hl
  clear h
  have hnn : ¬ n = 0 := by omega
  by_cases hg : 200 < n
  · have d1 : decide (200 < n) = true := by simp; omega
    go_enter Tryd.func42, Tryd.ntmps42
    go_wp2_with fail
    refine c1.mono ?_
    rintro e w1 ⟨⟨v, ⟨hv0, hv1⟩, rfl⟩, g1, C1⟩
    have HG1 : Hid (Chg w w1 c (c + 1)) := g1
    have c2 := next_c C1 (by omega) hl
    clear g1 C1 c1
    go_wp2_with fail
    refine c2.mono ?_
    rintro e w2 ⟨⟨u, ⟨hu0, hu1⟩, rfl⟩, g2, C2⟩
    have HG2 : Hid (Chg w w2 c (c + 1)) := HG1.out.trans g2
    have HC2 : Hid (Cu w2 code len c (B + 2)) := C2
    clear C2 g2 c2 HG1
    have m0 := Int.emod_nonneg (v * 256 + u) (show n ≠ 0 by omega)
    have m1 := Int.emod_lt_of_pos (v * 256 + u) (show 0 < n by omega)
    go_wp2_with fail
    go_ret
    exact ⟨⟨(v * 256 + u) % n, ⟨m0, m1⟩, rfl⟩, HG2.out, HC2.out⟩
  · have d1 : decide (200 < n) = false := by simp; omega
    go_enter Tryd.func42, Tryd.ntmps42
    go_wp2_with fail
    refine c1.mono ?_
    rintro e w1 ⟨⟨v, ⟨hv0, hv1⟩, rfl⟩, g1, C1⟩
    have HG1 : Hid (Chg w w1 c (c + 1)) := g1
    have HC1 : Hid (Cu w1 code len c (B + 1)) := C1
    clear C1 g1 c1
    have m0 := Int.emod_nonneg v (show n ≠ 0 by omega)
    have m1 := Int.emod_lt_of_pos v (show 0 < n by omega)
    go_wp2_with fail
    go_ret
    exact ⟨⟨v % n, ⟨m0, m1⟩, rfl⟩, HG1.out, HC1.out.mono (by omega)⟩
theorem one_c {w : World} {code : Value} {len c B : Nat} (h : Cu w code len c B) (hB : B ≤ 549755813888) (hl : len ≤ 9223372036854775807) (n : Int) (hn : 2 ≤ n) (hn' : n ≤ 60000) :
    Calls Tryd.prog 25 #[.pointer (some ⟨c, 0, none⟩), .int .i64 n] w fun e w' => (∃ v : Bool, e = .returned (.bool v)) ∧ Chg w w' c (c + 1) ∧ Cu w' code len c (B + 2) := by
  have c1 := pick_c h hB hl n hn hn'
  clear h
  go_enter Tryd.func25, Tryd.ntmps25
  go_wp2_with fail
  refine c1.mono ?_
  rintro e w1 ⟨⟨v, ⟨hv0, hv1⟩, rfl⟩, g1, C1⟩
  have HG1 : Hid (Chg w w1 c (c + 1)) := g1
  have HC1 : Hid (Cu w1 code len c (B + 2)) := C1
  clear C1 g1
  go_wp2_with fail
  go_ret
  exact ⟨⟨_, rfl⟩, HG1.out, HC1.out⟩
theorem orB (a b : Int) : -9223372036854775808 ≤ bits BinOp.or IntKind.i64 a b ∧ bits BinOp.or IntKind.i64 a b ≤ 9223372036854775807 := by
  show -9223372036854775808 ≤ IntKind.i64.wrap (((BitVec.ofInt 64 a ||| BitVec.ofInt 64 b).toNat : Nat) : Int) ∧ IntKind.i64.wrap (((BitVec.ofInt 64 a ||| BitVec.ofInt 64 b).toNat : Nat) : Int) ≤ 9223372036854775807
  rw [IntKind.wrap_i64]
  omega
def anyI (v : Int) : Prop := -9223372036854775808 ≤ v ∧ v ≤ 9223372036854775807
set_option maxRecDepth 100000 in
set_option maxHeartbeats 2000000 in
theorem wide_c {w : World} {code : Value} {len c B : Nat} (h : Cu w code len c B) (hB : B ≤ 549755813888) (hl : len ≤ 9223372036854775807) :
    Calls Tryd.prog 58 #[.pointer (some ⟨c, 0, none⟩)] w fun e w' => CuP anyI w code len c (B + 8) e w' := by
  have HC : Hid (Cu w code len c (B + 0)) := h
  clear h
  go_enter Tryd.func58, Tryd.ntmps58
  go_wp2_with fail
  go_loopw [3, 4] (fun n i W => ∃ (n' : Int) (i' : Nat), i' ≤ 8 ∧ (-9223372036854775808 ≤ n' ∧ n' ≤ 9223372036854775807) ∧ n = .int .i64 n' ∧ i = .int .i64 i' ∧ Hid (Cu W code len c (B + i')) ∧ Hid (Chg w W c (c + 1))) (fun _ i _ => 8 - (intOf i).toNat)
  case atStart => exact ⟨0, 0, by omega, ⟨by omega, by omega⟩, rfl, rfl, HC, (Old.refl w).toChg _ _⟩
  case round =>
    obtain ⟨n, i, hi, ⟨hn0, hn1⟩, rfl, rfl, HC1, HG1⟩ := hrel
    clear HC
    by_cases hlt : i < 8
    · have hd : decide ((i : Int) < 8) = true := by simp; omega
      have c1 := next_c HC1.out (by omega) hl
      go_wp2_with fail
      refine c1.mono ?_
      rintro e w1 ⟨⟨v, ⟨hv0, hv1⟩, rfl⟩, g1, C1⟩
      have HC2 : Hid (Cu w1 code len c (B + (i + 1))) := C1
      have HG2 : Hid (Chg w w1 c (c + 1)) := HG1.out.trans g1
      clear C1 HC1 g1 HG1 c1
      go_wp2_with fail
      exact ⟨⟨_, i + 1, by omega, orB _ _, rfl, by go_num, HC2, HG2⟩, by simp [intOf]; omega⟩
    · have hd : decide ((i : Int) < 8) = false := by simp; omega
      go_wp2_with fail
      go_ret
      exact ⟨⟨n, ⟨hn0, hn1⟩, rfl⟩, HG1.out, HC1.out.mono (by omega)⟩
set_option maxRecDepth 100000 in
set_option maxHeartbeats 2000000 in
theorem among_c {w : World} {code : Value} {len c B : Nat} (h : Cu w code len c B) (hB : B ≤ 274877906944) (hl : len ≤ 9223372036854775807) (v : Value) (xs : List Int) (hn : 2 ≤ xs.length) (hn' : xs.length ≤ 1000) (hr : Row w v xs) (hv : ∀ b o n cap, v = .slice (some ⟨b, o, none⟩) n cap → b ≠ c) :
    Calls Tryd.prog 43 #[.pointer (some ⟨c, 0, none⟩), v] w fun e w' => CuP (fun x => x ∈ xs) w code len c (B + 2) e w' := by
  have c1 := pick_c h (by omega) hl (xs.length : Int) (by omega) (by omega)
  rcases hr with ⟨a, cap, rfl, e2⟩ | ⟨b, o, cap, rfl, hb, h0, hc⟩
  · rw [e2] at hn; simp at hn
  · have hne := hv b o _ cap rfl
    have Hc : Hid (∀ j, j < xs.length → w.cell? ⟨b, o + j, none⟩ = some (.int .i64 (xs.getD j 0))) := hc
    clear h hc hv
    go_enter Tryd.func43, Tryd.ntmps43
    go_wp2_with fail
    refine c1.mono ?_
    rintro e w1 ⟨⟨v, ⟨hv0, hv1⟩, rfl⟩, g1, C1⟩
    have HG1 : Hid (Chg w w1 c (c + 1)) := g1
    have HC1 : Hid (Cu w1 code len c (B + 2)) := C1
    clear C1 g1 c1
    obtain ⟨k, rfl⟩ := Int.eq_ofNat_of_zero_le hv0
    have hx := (World.cell?_of_block (HG1.out.block b hb (by omega))).trans (Hc.out k (by omega))
    have HM : Hid (xs.getD k 0 ∈ xs) := by show _ ∈ _; simp [List.getD, show k < xs.length by omega]
    generalize xs.getD k 0 = x at *
    go_wp2_with fail
    go_ret
    exact ⟨⟨x, HM.out, rfl⟩, HG1.out, HC1.out⟩
def BysW (w : World) (v : Value) (len : Nat) : Prop :=
  (∃ a cap, v = .slice a 0 cap ∧ len = 0) ∨ ∃ b o cap, v = .slice (some ⟨b, o, none⟩) len cap ∧ b < w.heap.size ∧ ∀ j, j < len → ∃ x : Int, (0 ≤ x ∧ x ≤ 255) ∧ w.cell? ⟨b, o + j, none⟩ = some (.int .u8 x)
theorem Cu.new {w : World} {v : Value} {len : Nat} (h : BysW w v len) : Cu (w.alloc (.cells #[v, .int .i64 0, .int .u64 0] 51)) v len w.heap.size 0 := by
  refine ⟨⟨0, 0, ⟨by omega, by omega⟩, ⟨by omega, by omega⟩, heap_alloc_new _ _⟩, ?_⟩
  rcases h with h1 | ⟨b, o, cap, e, hb, hc⟩
  · exact Or.inl h1
  · refine Or.inr ⟨b, o, cap, e, ⟨by simp; omega, hb⟩, fun j hj => ?_⟩
    obtain ⟨x, hx, hxc⟩ := hc j hj
    exact ⟨x, hx, by rw [cell_lt _ _ _ _ hb]; exact hxc⟩
end Go.Proofs.YtglbegbhekcddaaDoor
