/- Proved: several texts in one: what each proves is said ahead of it. -/
import Derived.Test.YtpoogglplaeooaaDoorCux
import Derived.Test.YtpoogglplaeooaaDoorTa02
import Derived.Test.YtpoogglplaeooaaDoorTa03
/- Proved: contracts of what is drawn for chapter 3: a ring with a modulus in range, polynomials of at most 17 numbers; nothing that was there changes but the cursor. -/
namespace Go.Proofs.YtpoogglplaeooaaDoor
open Go.ChangeShapes Go.WideShapes Go.ChangeAt Go.RowKit
set_option linter.unusedVariables false
set_option linter.unusedSimpArgs false
theorem chg_alloc {a b : World} {lo hi : Nat} (h : Chg a b lo hi) (o : Obj) : Chg a (b.alloc o) lo hi := h.trans (((Old.refl b).alloc o).toChg lo hi)
theorem chg_own {w W : World} {lo hi : Nat} (h : Chg w W lo hi) {p : Addr} (hp : w.heap.size ≤ p.block) (x : Value) : Chg w (W.setCell p x) lo hi :=
  ⟨h.os, h.tape, h.output, by rw [World.size_setCell]; exact h.size, fun b hb ho => by rw [heap_setCell_other _ _ _ _ (by show b ≠ p.block; omega)]; exact h.block b hb ho⟩
theorem chg_grown {a b c : World} {lo hi : Nat} {ob : Option Nat} (h : Chg a b lo hi) (g : b.grownBy c ob) (hk : ∀ k, ob = some k → a.heap.size ≤ k) : Chg a c lo hi :=
  ⟨g.os.trans h.os, g.tape.trans h.tape, g.output.trans h.output, Nat.le_trans h.size g.size, fun k hk1 ho => (g.block k (Nat.lt_of_lt_of_le hk1 h.size) (fun e => by have := hk k e.symm; omega)).trans (h.block k hk1 ho)⟩
theorem bk_put3 {w : World} {k : Nat} {x y z : Value} {t : TypeId} (h : Bk w k #[x, y, z] t) (x' y' z' : Value) : Bk (((w.setCell ⟨k, 0, none⟩ x').setCell ⟨k, 1, none⟩ y').setCell ⟨k, 2, none⟩ z') k #[x', y', z'] t := by
  have h1 := heap_setCell_same w k 0 _ _ x' h
  have h2 := heap_setCell_same _ k 1 _ _ y' h1
  exact (heap_setCell_same _ k 2 _ _ z' h2).trans rfl
theorem bk_other {w : World} {k : Nat} {cs : Array Value} {t : TypeId} (h : Bk w k cs t) {p : Addr} (hp : k ≠ p.block) (x : Value) : Bk (w.setCell p x) k cs t :=
  (heap_setCell_other _ _ _ _ hp).trans h
theorem cu_own {w : World} {code : Value} {len c B : Nat} (h : Cu w code len c B) {p : Addr} (hp : c < p.block) (x : Value) : Cu (w.setCell p x) code len c B :=
  h.kept (by rw [World.size_setCell]; exact Nat.le_refl _) (fun b hb => heap_setCell_other _ _ _ _ (by show b ≠ p.block; omega))
/-- a literal of numbers as it lies in a new block -/
theorem row_lit3 (w : World) (xs : List Int) (h : 0 < xs.length) (t : TypeId) : Row (w.alloc (.cells (xs.map (Value.int .i64)).toArray t)) (.slice (some ⟨w.heap.size, 0, none⟩) xs.length xs.length) xs :=
  Or.inr ⟨w.heap.size, 0, xs.length, rfl, by simp, h, fun j hj => by rw [Nat.zero_add, cell_at _ _ _ _ _ rfl]; simp [List.getD, hj]⟩
theorem among_lit3 {w : World} {code : Value} {len c B : Nat} (h : Cu w code len c B) (hB : B ≤ 274877906944) (hl : len ≤ 9223372036854775807) (xs : List Int) (hn : 2 ≤ xs.length) (hn' : xs.length ≤ 1000) (t : TypeId) :
    Calls Tryd.prog 36 #[.pointer (some ⟨c, 0, none⟩), .slice (some ⟨w.heap.size, 0, none⟩) xs.length xs.length] (w.alloc (.cells (xs.map (Value.int .i64)).toArray t)) fun e w' => CuP (fun x => x ∈ xs) w code len c (B + 2) e w' := by
  refine (among_c (h.old ((Old.refl w).alloc _)) hB hl _ xs hn hn' (row_lit3 w xs (by omega) t) (fun b o n cap e => ?_)).mono ?_
  · injection e with e1
    injection e1 with e2
    injection e2 with e3
    have := h.lt
    omega
  · rintro e w' ⟨h1, h2, h3⟩
    exact ⟨h1, ((((Old.refl w).alloc _).toChg c (c + 1)).trans h2), h3⟩
/-- a list of numbers that is laid anew -/
def Lits (w : World) (xs : List Int) (e : Ending) (w' : World) : Prop := e = .returned (.slice (some ⟨w.heap.size, 0, none⟩) xs.length xs.length) ∧ Old w w' ∧ Row w' (.slice (some ⟨w.heap.size, 0, none⟩) xs.length xs.length) xs
abbrev prs10 : List Int := [268435361, 268435009, 268434977, 268434721, 268434401, 268433761, 268433569, 268433441, 268433377, 268433057]
abbrev sml9 : List Int := [97, 193, 257, 353, 449, 577, 641, 673, 769]
set_option maxRecDepth 100000 in
set_option maxHeartbeats 2000000 in
theorem l1Primes_c (w : World) : Calls Tryd.prog 37 #[] w (Lits w prs10) := by
  go_enter Tryd.func37, Tryd.ntmps37
  go_wp2_with fail
  go_ret
  exact ⟨rfl, (Old.refl w).alloc _, row_lit3 w prs10 (by decide) _⟩
set_option maxRecDepth 100000 in
set_option maxHeartbeats 2000000 in
theorem l1Small_c (w : World) : Calls Tryd.prog 39 #[] w (Lits w sml9) := by
  go_enter Tryd.func39, Tryd.ntmps39
  go_wp2_with fail
  go_ret
  exact ⟨rfl, (Old.refl w).alloc _, row_lit3 w sml9 (by decide) _⟩
/-- one of a list that was laid anew since -/
theorem among_of {w W : World} {code : Value} {len c B : Nat} (h : Cu w code len c B) (g : Old w W) (hB : B ≤ 274877906944) (hl : len ≤ 9223372036854775807) (xs : List Int) (hn : 2 ≤ xs.length) (hn' : xs.length ≤ 1000) (hr : Row W (.slice (some ⟨w.heap.size, 0, none⟩) xs.length xs.length) xs) :
    Calls Tryd.prog 36 #[.pointer (some ⟨c, 0, none⟩), .slice (some ⟨w.heap.size, 0, none⟩) xs.length xs.length] W fun e w' => CuP (fun x => x ∈ xs) w code len c (B + 2) e w' := by
  refine (among_c (h.old g) hB hl _ xs hn hn' hr (fun b o n cap e => ?_)).mono ?_
  · injection e with e1
    injection e1 with e2
    injection e2 with e3
    have := h.lt
    omega
  · rintro e w' ⟨h1, h2, h3⟩
    exact ⟨h1, ((g.toChg c (c + 1)).trans h2), h3⟩
/-- a size of a ring -/
def sz4I (n : Int) : Prop := n = 2 ∨ n = 4 ∨ n = 8 ∨ n = 16
set_option maxRecDepth 100000 in
set_option maxHeartbeats 2000000 in
theorem size_c {w : World} {code : Value} {len c B : Nat} (h : Cu w code len c B) (hB : B ≤ 137438953472) (hl : len ≤ 9223372036854775807) :
    Calls Tryd.prog 35 #[.pointer (some ⟨c, 0, none⟩)] w fun e w' => CuP sz4I w code len c (B + 2) e w' := by
  have c1 := among_lit3 h (by omega) hl [2, 4, 8, 16] (by decide) (by decide) 3
  go_enter Tryd.func35, Tryd.ntmps35
  go_wp2_with fail
  refine c1.mono ?_
  rintro e w1 ⟨⟨v, hv, rfl⟩, g1, C1⟩
  have HV : Hid (sz4I v) := by show sz4I v; simpa [sz4I] using hv
  have HG : Hid (Chg w w1 c (c + 1)) := g1
  have HC : Hid (Cu w1 code len c (B + 2)) := C1
  clear g1 C1 c1 hv h
  go_wp2_with fail
  go_ret
  exact ⟨⟨v, HV.out, rfl⟩, HG.out, HC.out⟩
/-- what RingOf of the model tells: a good ring, or none -/
theorem ringOf_c (p n : Int) (hp : -9223372036854775808 ≤ p ∧ p ≤ 9223372036854775807) : ∃ (q m r : Int) (ok : Bool), (ok = true → q = p ∧ m = n ∧ (2 ≤ q ∧ q ≤ 268435456) ∧ 0 ≤ r ∧ r < 268435456) ∧ (ok = false → ¬ RingOk p n)
    ∧ ∀ W, Calls Tryd.prog 40 #[.int .i64 p, .int .i64 n] W fun e w' => e = .returned (.tuple #[.agg #[.int .i64 q, .int .i64 m, .int .i64 r], .bool ok]) ∧ Old W w' := by
  by_cases h : RingOk p n
  · have h1 := modB_yes h.md
    have h2 := h.sz
    obtain ⟨P, rfl⟩ := Int.eq_ofNat_of_zero_le (show 0 ≤ p by omega)
    obtain ⟨M, rfl⟩ := Int.eq_ofNat_of_zero_le (show 0 ≤ n by omega)
    obtain ⟨R, r1, _, _, r2⟩ := Ring_both P M h
    exact ⟨P, M, R, true, fun _ => ⟨rfl, rfl, h1, by omega, by omega⟩, (fun e => by cases e), r2⟩
  · exact ⟨0, 0, 0, false, (fun e => by cases e), fun _ => h, fun W => spec_RingOf_no p n W hp h⟩
theorem ring97 {n : Int} (h : sz4I n) : RingOk 97 n := by
  refine ⟨h, by decide, by decide, ?_⟩
  rcases h with rfl | rfl | rfl | rfl <;> decide
/-- what a draw of a ring leaves -/
def CuG (w : World) (code : Value) (len c B : Nat) (e : Ending) (w' : World) : Prop :=
  ∃ p n r : Int, e = .returned (.agg #[.int .i64 p, .int .i64 n, .int .i64 r]) ∧ (2 ≤ p ∧ p ≤ 268435456) ∧ sz4I n ∧ Chg w w' c (c + 1) ∧ Cu w' code len c B
end Go.Proofs.YtpoogglplaeooaaDoor
/- Proved: the contract of the draw of a ring. -/
namespace Go.Proofs.YtpoogglplaeooaaDoor
open Go.ChangeShapes Go.WideShapes Go.ChangeAt Go.RowKit
set_option linter.unusedVariables false
set_option linter.unusedSimpArgs false
set_option maxRecDepth 100000 in
set_option maxHeartbeats 8000000 in
theorem ring_c {w : World} {code : Value} {len c B : Nat} (h : Cu w code len c B) (hB : B ≤ 68719476736) (hl : len ≤ 9223372036854775807) :
    Calls Tryd.prog 16 #[.pointer (some ⟨c, 0, none⟩)] w fun e w' => CuG w code len c (B + 40) e w' := by
  have hcw := h.lt
  have C0 := h.old ((Old.refl w).alloc (.cells #[.int .i64 0, .int .i64 0, .int .i64 0] 24))
  have HG0 : Hid (Chg w (w.alloc (.cells #[.int .i64 0, .int .i64 0, .int .i64 0] 24)) c (c + 1)) := ((Old.refl w).alloc _).toChg _ _
  have HB0 : Hid (Bk (w.alloc (.cells #[.int .i64 0, .int .i64 0, .int .i64 0] 24)) w.heap.size #[.int .i64 0, .int .i64 0, .int .i64 0] 24) := Bk.new' w _ _ rfl
  have c1 := size_c C0 (by omega) hl
  clear h C0
  go_enter Tryd.func16, Tryd.ntmps16
  go_wp2_with fail
  refine c1.mono ?_
  rintro e w1 ⟨⟨n, hn, rfl⟩, g1, C1⟩
  have HN : Hid (sz4I n) := hn
  have HG1 : Hid (Chg w w1 c (c + 1)) := HG0.out.trans g1
  have HB1 : Hid (Bk w1 w.heap.size #[.int .i64 0, .int .i64 0, .int .i64 0] 24) := HB0.out.chg g1 (Or.inr (by omega))
  have c2 := l1Primes_c w1
  clear g1 c1 hn HG0 HB0
  go_wp2_with fail
  refine c2.mono ?_
  rintro e w2 ⟨rfl, g2, r2⟩
  have c3 := among_of C1 g2 (by omega) hl prs10 (by decide) (by decide) r2
  clear c2 g2 r2 C1
  go_wp2_with fail
  refine c3.mono ?_
  rintro e w3 ⟨⟨p, hp, rfl⟩, g3, C3⟩
  have HP : Hid (2 ≤ p ∧ p ≤ 268435456) := by
    simp only [List.mem_cons, List.not_mem_nil, or_false] at hp
    rcases hp with rfl | rfl | rfl | rfl | rfl | rfl | rfl | rfl | rfl | rfl
    all_goals exact ⟨by omega, by omega⟩
  have HG3 : Hid (Chg w w3 c (c + 1)) := HG1.out.trans g3
  have HB3 : Hid (Bk w3 w.heap.size #[.int .i64 0, .int .i64 0, .int .i64 0] 24) := HB1.out.chg g3 (Or.inr (by omega))
  have c4 := one_c C3 (by omega) hl 2 (by omega) (by omega)
  clear g3 c3 hp HG1 HB1 C3
  go_wp2_with fail
  refine c4.mono ?_
  rintro e w4 ⟨⟨o, rfl⟩, g4, C4⟩
  have HG4 : Hid (Chg w w4 c (c + 1)) := HG3.out.trans g4
  have HB4 : Hid (Bk w4 w.heap.size #[.int .i64 0, .int .i64 0, .int .i64 0] 24) := HB3.out.chg g4 (Or.inr (by omega))
  have HC4 : Hid (Cu w4 code len c (B + 2 + 2 + 2)) := C4
  clear g4 c4 HG3 HB3 C4
  cases o
  · skip
    obtain ⟨q, m, r, ok, h1, h2, cr⟩ := ringOf_c p n (by have := HP.out; omega)
    go_wp2_with fail
    refine (cr _).mono ?_
    rintro e w5 ⟨rfl, g5⟩
    have HG5 : Hid (Chg w w5 c (c + 1)) := HG4.out.trans (g5.toChg _ _)
    have HB5 : Hid (Bk w5 w.heap.size #[.int .i64 0, .int .i64 0, .int .i64 0] 24) := HB4.out.old g5
    have HC5 : Hid (Cu w5 code len c (B + 2 + 2 + 2 + 2)) := (HC4.out.old g5).mono (by omega)
    have l5 := HB5.out.lt
    have HG6 : Hid (Chg w (w5.alloc (.cells #[.int .i64 q, .int .i64 m, .int .i64 r] 24)) c (c + 1)) := chg_alloc HG5.out _
    have HB6 : Hid (Bk (w5.alloc (.cells #[.int .i64 q, .int .i64 m, .int .i64 r] 24)) w.heap.size #[.int .i64 0, .int .i64 0, .int .i64 0] 24) := HB5.out.alloc _
    have HR6 : Hid (Bk (w5.alloc (.cells #[.int .i64 q, .int .i64 m, .int .i64 r] 24)) w5.heap.size #[.int .i64 q, .int .i64 m, .int .i64 r] 24) := Bk.new' w5 _ _ rfl
    have HC6 : Hid (Cu (w5.alloc (.cells #[.int .i64 q, .int .i64 m, .int .i64 r] 24)) code len c (B + 2 + 2 + 2 + 2)) := HC5.out.old ((Old.refl w5).alloc _)
    clear g5 cr HG4 HB4 HC4 HG5 HB5 HC5
    cases ok
    · obtain ⟨q2, m2, r2, ok2, k1, k2, cr2⟩ := ringOf_c 97 n (by omega)
      obtain rfl : ok2 = true := by
        cases ok2
        · exact absurd (ring97 HN.out) (k2 rfl)
        · rfl
      obtain ⟨rfl, rfl, k3, k4, k5⟩ := k1 rfl
      clear k2 h1 h2
      go_wp2_with fail
      refine (cr2 _).mono ?_
      rintro e w8 ⟨rfl, g8⟩
      have HG8 : Hid (Chg w w8 c (c + 1)) := HG6.out.trans (g8.toChg _ _)
      have HB8 : Hid (Bk w8 w.heap.size #[.int .i64 0, .int .i64 0, .int .i64 0] 24) := HB6.out.old g8
      have HR8 : Hid (Bk w8 w5.heap.size #[.int .i64 q, .int .i64 m, .int .i64 r] 24) := HR6.out.old g8
      have HC8 : Hid (Cu w8 code len c (B + 2 + 2 + 2 + 2)) := HC6.out.old g8
      have x0 := HR8.out.c (i := 0) rfl
      have x1 := HR8.out.c (i := 1) rfl
      have x2 := HR8.out.c (i := 2) rfl
      have f0 : w8.frozen? ⟨w5.heap.size, 0, none⟩ = false := frozen_of_row _ _ _ _ _ HR8.out
      have f1 : w8.frozen? ⟨w5.heap.size, 1, none⟩ = false := frozen_of_row _ _ _ _ _ HR8.out
      have f2 : w8.frozen? ⟨w5.heap.size, 2, none⟩ = false := frozen_of_row _ _ _ _ _ HR8.out
      clear g8 cr2 HG6 HB6 HR6 HC6
      have HG9 : Hid (Chg w (((w8.setCell ⟨w5.heap.size, 0, none⟩ (.int .i64 97)).setCell ⟨w5.heap.size, 1, none⟩ (.int .i64 m2)).setCell ⟨w5.heap.size, 2, none⟩ (.int .i64 r2)) c (c + 1)) := chg_own (chg_own (chg_own HG8.out (by show _ ≤ w5.heap.size; omega) _) (by show _ ≤ w5.heap.size; omega) _) (by show _ ≤ w5.heap.size; omega) _
      have HB9 : Hid (Bk (((w8.setCell ⟨w5.heap.size, 0, none⟩ (.int .i64 97)).setCell ⟨w5.heap.size, 1, none⟩ (.int .i64 m2)).setCell ⟨w5.heap.size, 2, none⟩ (.int .i64 r2)) w.heap.size #[.int .i64 0, .int .i64 0, .int .i64 0] 24) := bk_other (bk_other (bk_other HB8.out (by show _ ≠ w5.heap.size; omega) _) (by show _ ≠ w5.heap.size; omega) _) (by show _ ≠ w5.heap.size; omega) _
      have HR9 : Hid (Bk (((w8.setCell ⟨w5.heap.size, 0, none⟩ (.int .i64 97)).setCell ⟨w5.heap.size, 1, none⟩ (.int .i64 m2)).setCell ⟨w5.heap.size, 2, none⟩ (.int .i64 r2)) w5.heap.size #[.int .i64 97, .int .i64 m2, .int .i64 r2] 24) := bk_put3 HR8.out _ _ _
      have C9 : Cu (((w8.setCell ⟨w5.heap.size, 0, none⟩ (.int .i64 97)).setCell ⟨w5.heap.size, 1, none⟩ (.int .i64 m2)).setCell ⟨w5.heap.size, 2, none⟩ (.int .i64 r2)) code len c (B + 2 + 2 + 2 + 2) := cu_own (cu_own (cu_own HC8.out (by show _ < w5.heap.size; omega) _) (by show _ < w5.heap.size; omega) _) (by show _ < w5.heap.size; omega) _
      clear HG8 HB8 HR8 HC8
      have c7 := one_c C9 (by omega) hl 30 (by omega) (by omega)
      go_wp2_with fail
      refine c7.mono ?_
      rintro e w7 ⟨⟨o7, rfl⟩, g7, C7⟩
      have HG7 : Hid (Chg w w7 c (c + 1)) := HG9.out.trans g7
      have HB7 : Hid (Bk w7 w.heap.size #[.int .i64 0, .int .i64 0, .int .i64 0] 24) := HB9.out.chg g7 (Or.inr (by omega))
      have HR7 : Hid (Bk w7 w5.heap.size #[.int .i64 97, .int .i64 m2, .int .i64 r2] 24) := HR9.out.chg g7 (Or.inr (by omega))
      have HC7 : Hid (Cu w7 code len c (B + 2 + 2 + 2 + 2 + 2)) := C7.mono (by omega)
      have l7 := HB7.out.lt
      have x0 := HR7.out.c (i := 0) rfl
      have x1 := HR7.out.c (i := 1) rfl
      have x2 := HR7.out.c (i := 2) rfl
      have y0 := HB7.out.c (i := 0) rfl
      have y1 := HB7.out.c (i := 1) rfl
      have y2 := HB7.out.c (i := 2) rfl
      have fx : w7.frozen? ⟨w5.heap.size, 2, none⟩ = false := frozen_of_row _ _ _ _ _ HR7.out
      have f0 : w7.frozen? ⟨w.heap.size, 0, none⟩ = false := frozen_of_row _ _ _ _ _ HB7.out
      have f1 : w7.frozen? ⟨w.heap.size, 1, none⟩ = false := frozen_of_row _ _ _ _ _ HB7.out
      have f2 : w7.frozen? ⟨w.heap.size, 2, none⟩ = false := frozen_of_row _ _ _ _ _ HB7.out
      have hne : w.heap.size ≠ w5.heap.size := by omega
      have i1 : -9223372036854775808 ≤ r2 + 1 ∧ r2 + 1 ≤ 9223372036854775807 := by omega
      clear g7 C7 c7 HG9 HB9 HR9
      cases o7
      · go_wp2_with fail
        have HF := bk_put3 HB7.out (.int .i64 97) (.int .i64 m2) (.int .i64 r2)
        have q0 := HF.c (i := 0) rfl
        have q1 := HF.c (i := 1) rfl
        have q2 := HF.c (i := 2) rfl
        exact bodyPost_ret (v := .agg #[.int .i64 97, .int .i64 m2, .int .i64 r2]) (by simp [results, Tryd.results16, go_sem, q0, q1, q2]) rfl ⟨97, m2, r2, rfl, k3, HN.out, chg_own (chg_own (chg_own HG7.out (Nat.le_refl _) _) (Nat.le_refl _) _) (Nat.le_refl _) _, (cu_own (cu_own (cu_own HC7.out (by omega) _) (by omega) _) (by omega) _).mono (by omega)⟩
      · have hne2 : w5.heap.size ≠ w.heap.size := by omega
        go_wp2_with fail
        have HF := bk_put3 (bk_other HB7.out (p := ⟨w5.heap.size, 2, none⟩) (by omega) (.int .i64 (r2 + 1))) (.int .i64 97) (.int .i64 m2) (.int .i64 (r2 + 1))
        have q0 := HF.c (i := 0) rfl
        have q1 := HF.c (i := 1) rfl
        have q2 := HF.c (i := 2) rfl
        exact bodyPost_ret (v := .agg #[.int .i64 97, .int .i64 m2, .int .i64 (r2 + 1)]) (by simp [results, Tryd.results16, go_sem, q0, q1, q2]) rfl ⟨97, m2, r2 + 1, rfl, k3, HN.out, chg_own (chg_own (chg_own (chg_own HG7.out (by show _ ≤ w5.heap.size; omega) _) (Nat.le_refl _) _) (Nat.le_refl _) _) (Nat.le_refl _) _, (cu_own (cu_own (cu_own (cu_own HC7.out (by show _ < w5.heap.size; omega) _) (by omega) _) (by omega) _) (by omega) _).mono (by omega)⟩
    · obtain ⟨rfl, rfl, k3, k4, k5⟩ := h1 rfl
      clear h2
      have c7 := one_c HC6.out (by omega) hl 30 (by omega) (by omega)
      go_wp2_with fail
      refine c7.mono ?_
      rintro e w7 ⟨⟨o7, rfl⟩, g7, C7⟩
      have HG7 : Hid (Chg w w7 c (c + 1)) := HG6.out.trans g7
      have HB7 : Hid (Bk w7 w.heap.size #[.int .i64 0, .int .i64 0, .int .i64 0] 24) := HB6.out.chg g7 (Or.inr (by omega))
      have HR7 : Hid (Bk w7 w5.heap.size #[.int .i64 q, .int .i64 m, .int .i64 r] 24) := HR6.out.chg g7 (Or.inr (by omega))
      have HC7 : Hid (Cu w7 code len c (B + 2 + 2 + 2 + 2 + 2)) := C7.mono (by omega)
      have l7 := HB7.out.lt
      have x0 := HR7.out.c (i := 0) rfl
      have x1 := HR7.out.c (i := 1) rfl
      have x2 := HR7.out.c (i := 2) rfl
      have y0 := HB7.out.c (i := 0) rfl
      have y1 := HB7.out.c (i := 1) rfl
      have y2 := HB7.out.c (i := 2) rfl
      have fx : w7.frozen? ⟨w5.heap.size, 2, none⟩ = false := frozen_of_row _ _ _ _ _ HR7.out
      have f0 : w7.frozen? ⟨w.heap.size, 0, none⟩ = false := frozen_of_row _ _ _ _ _ HB7.out
      have f1 : w7.frozen? ⟨w.heap.size, 1, none⟩ = false := frozen_of_row _ _ _ _ _ HB7.out
      have f2 : w7.frozen? ⟨w.heap.size, 2, none⟩ = false := frozen_of_row _ _ _ _ _ HB7.out
      have hne : w.heap.size ≠ w5.heap.size := by omega
      have i1 : -9223372036854775808 ≤ r + 1 ∧ r + 1 ≤ 9223372036854775807 := by omega
      clear g7 C7 c7 HG6 HB6 HR6
      cases o7
      · go_wp2_with fail
        have HF := bk_put3 HB7.out (.int .i64 q) (.int .i64 m) (.int .i64 r)
        have q0 := HF.c (i := 0) rfl
        have q1 := HF.c (i := 1) rfl
        have q2 := HF.c (i := 2) rfl
        exact bodyPost_ret (v := .agg #[.int .i64 q, .int .i64 m, .int .i64 r]) (by simp [results, Tryd.results16, go_sem, q0, q1, q2]) rfl ⟨q, m, r, rfl, k3, HN.out, chg_own (chg_own (chg_own HG7.out (Nat.le_refl _) _) (Nat.le_refl _) _) (Nat.le_refl _) _, (cu_own (cu_own (cu_own HC7.out (by omega) _) (by omega) _) (by omega) _).mono (by omega)⟩
      · have hne2 : w5.heap.size ≠ w.heap.size := by omega
        go_wp2_with fail
        have HF := bk_put3 (bk_other HB7.out (p := ⟨w5.heap.size, 2, none⟩) (by omega) (.int .i64 (r + 1))) (.int .i64 q) (.int .i64 m) (.int .i64 (r + 1))
        have q0 := HF.c (i := 0) rfl
        have q1 := HF.c (i := 1) rfl
        have q2 := HF.c (i := 2) rfl
        exact bodyPost_ret (v := .agg #[.int .i64 q, .int .i64 m, .int .i64 (r + 1)]) (by simp [results, Tryd.results16, go_sem, q0, q1, q2]) rfl ⟨q, m, r + 1, rfl, k3, HN.out, chg_own (chg_own (chg_own (chg_own HG7.out (by show _ ≤ w5.heap.size; omega) _) (Nat.le_refl _) _) (Nat.le_refl _) _) (Nat.le_refl _) _, (cu_own (cu_own (cu_own (cu_own HC7.out (by show _ < w5.heap.size; omega) _) (by omega) _) (by omega) _) (by omega) _).mono (by omega)⟩
  · skip
    have c5 := l1Small_c w4
    go_wp2_with fail
    refine c5.mono ?_
    rintro e w2' ⟨rfl, g2, r2⟩
    have c6 := among_of HC4.out g2 (by omega) hl sml9 (by decide) (by decide) r2
    clear c5 g2 r2 HC4
    go_wp2_with fail
    refine c6.mono ?_
    rintro e w9 ⟨⟨p', hp, rfl⟩, g3, C3⟩
    have HP2 : Hid (2 ≤ p' ∧ p' ≤ 268435456) := by
      simp only [List.mem_cons, List.not_mem_nil, or_false] at hp
      rcases hp with rfl | rfl | rfl | rfl | rfl | rfl | rfl | rfl | rfl
      all_goals exact ⟨by omega, by omega⟩
    have HGx : Hid (Chg w w9 c (c + 1)) := HG4.out.trans g3
    have HBx : Hid (Bk w9 w.heap.size #[.int .i64 0, .int .i64 0, .int .i64 0] 24) := HB4.out.chg g3 (Or.inr (by omega))
    have HCx : Hid (Cu w9 code len c (B + 2 + 2 + 2 + 2)) := C3
    clear g3 c6 hp HG4 HB4 C3 HP
    obtain ⟨q, m, r, ok, h1, h2, cr⟩ := ringOf_c p' n (by have := HP2.out; omega)
    go_wp2_with fail
    refine (cr _).mono ?_
    rintro e w5 ⟨rfl, g5⟩
    have HG5 : Hid (Chg w w5 c (c + 1)) := HGx.out.trans (g5.toChg _ _)
    have HB5 : Hid (Bk w5 w.heap.size #[.int .i64 0, .int .i64 0, .int .i64 0] 24) := HBx.out.old g5
    have HC5 : Hid (Cu w5 code len c (B + 2 + 2 + 2 + 2)) := (HCx.out.old g5).mono (by omega)
    have l5 := HB5.out.lt
    have HG6 : Hid (Chg w (w5.alloc (.cells #[.int .i64 q, .int .i64 m, .int .i64 r] 24)) c (c + 1)) := chg_alloc HG5.out _
    have HB6 : Hid (Bk (w5.alloc (.cells #[.int .i64 q, .int .i64 m, .int .i64 r] 24)) w.heap.size #[.int .i64 0, .int .i64 0, .int .i64 0] 24) := HB5.out.alloc _
    have HR6 : Hid (Bk (w5.alloc (.cells #[.int .i64 q, .int .i64 m, .int .i64 r] 24)) w5.heap.size #[.int .i64 q, .int .i64 m, .int .i64 r] 24) := Bk.new' w5 _ _ rfl
    have HC6 : Hid (Cu (w5.alloc (.cells #[.int .i64 q, .int .i64 m, .int .i64 r] 24)) code len c (B + 2 + 2 + 2 + 2)) := HC5.out.old ((Old.refl w5).alloc _)
    clear g5 cr HGx HBx HCx HG5 HB5 HC5
    cases ok
    · obtain ⟨q2, m2, r2, ok2, k1, k2, cr2⟩ := ringOf_c 97 n (by omega)
      obtain rfl : ok2 = true := by
        cases ok2
        · exact absurd (ring97 HN.out) (k2 rfl)
        · rfl
      obtain ⟨rfl, rfl, k3, k4, k5⟩ := k1 rfl
      clear k2 h1 h2
      go_wp2_with fail
      refine (cr2 _).mono ?_
      rintro e w8 ⟨rfl, g8⟩
      have HG8 : Hid (Chg w w8 c (c + 1)) := HG6.out.trans (g8.toChg _ _)
      have HB8 : Hid (Bk w8 w.heap.size #[.int .i64 0, .int .i64 0, .int .i64 0] 24) := HB6.out.old g8
      have HR8 : Hid (Bk w8 w5.heap.size #[.int .i64 q, .int .i64 m, .int .i64 r] 24) := HR6.out.old g8
      have HC8 : Hid (Cu w8 code len c (B + 2 + 2 + 2 + 2)) := HC6.out.old g8
      have x0 := HR8.out.c (i := 0) rfl
      have x1 := HR8.out.c (i := 1) rfl
      have x2 := HR8.out.c (i := 2) rfl
      have f0 : w8.frozen? ⟨w5.heap.size, 0, none⟩ = false := frozen_of_row _ _ _ _ _ HR8.out
      have f1 : w8.frozen? ⟨w5.heap.size, 1, none⟩ = false := frozen_of_row _ _ _ _ _ HR8.out
      have f2 : w8.frozen? ⟨w5.heap.size, 2, none⟩ = false := frozen_of_row _ _ _ _ _ HR8.out
      clear g8 cr2 HG6 HB6 HR6 HC6
      have HG9 : Hid (Chg w (((w8.setCell ⟨w5.heap.size, 0, none⟩ (.int .i64 97)).setCell ⟨w5.heap.size, 1, none⟩ (.int .i64 m2)).setCell ⟨w5.heap.size, 2, none⟩ (.int .i64 r2)) c (c + 1)) := chg_own (chg_own (chg_own HG8.out (by show _ ≤ w5.heap.size; omega) _) (by show _ ≤ w5.heap.size; omega) _) (by show _ ≤ w5.heap.size; omega) _
      have HB9 : Hid (Bk (((w8.setCell ⟨w5.heap.size, 0, none⟩ (.int .i64 97)).setCell ⟨w5.heap.size, 1, none⟩ (.int .i64 m2)).setCell ⟨w5.heap.size, 2, none⟩ (.int .i64 r2)) w.heap.size #[.int .i64 0, .int .i64 0, .int .i64 0] 24) := bk_other (bk_other (bk_other HB8.out (by show _ ≠ w5.heap.size; omega) _) (by show _ ≠ w5.heap.size; omega) _) (by show _ ≠ w5.heap.size; omega) _
      have HR9 : Hid (Bk (((w8.setCell ⟨w5.heap.size, 0, none⟩ (.int .i64 97)).setCell ⟨w5.heap.size, 1, none⟩ (.int .i64 m2)).setCell ⟨w5.heap.size, 2, none⟩ (.int .i64 r2)) w5.heap.size #[.int .i64 97, .int .i64 m2, .int .i64 r2] 24) := bk_put3 HR8.out _ _ _
      have C9 : Cu (((w8.setCell ⟨w5.heap.size, 0, none⟩ (.int .i64 97)).setCell ⟨w5.heap.size, 1, none⟩ (.int .i64 m2)).setCell ⟨w5.heap.size, 2, none⟩ (.int .i64 r2)) code len c (B + 2 + 2 + 2 + 2) := cu_own (cu_own (cu_own HC8.out (by show _ < w5.heap.size; omega) _) (by show _ < w5.heap.size; omega) _) (by show _ < w5.heap.size; omega) _
      clear HG8 HB8 HR8 HC8
      have c7 := one_c C9 (by omega) hl 30 (by omega) (by omega)
      go_wp2_with fail
      refine c7.mono ?_
      rintro e w7 ⟨⟨o7, rfl⟩, g7, C7⟩
      have HG7 : Hid (Chg w w7 c (c + 1)) := HG9.out.trans g7
      have HB7 : Hid (Bk w7 w.heap.size #[.int .i64 0, .int .i64 0, .int .i64 0] 24) := HB9.out.chg g7 (Or.inr (by omega))
      have HR7 : Hid (Bk w7 w5.heap.size #[.int .i64 97, .int .i64 m2, .int .i64 r2] 24) := HR9.out.chg g7 (Or.inr (by omega))
      have HC7 : Hid (Cu w7 code len c (B + 2 + 2 + 2 + 2 + 2)) := C7.mono (by omega)
      have l7 := HB7.out.lt
      have x0 := HR7.out.c (i := 0) rfl
      have x1 := HR7.out.c (i := 1) rfl
      have x2 := HR7.out.c (i := 2) rfl
      have y0 := HB7.out.c (i := 0) rfl
      have y1 := HB7.out.c (i := 1) rfl
      have y2 := HB7.out.c (i := 2) rfl
      have fx : w7.frozen? ⟨w5.heap.size, 2, none⟩ = false := frozen_of_row _ _ _ _ _ HR7.out
      have f0 : w7.frozen? ⟨w.heap.size, 0, none⟩ = false := frozen_of_row _ _ _ _ _ HB7.out
      have f1 : w7.frozen? ⟨w.heap.size, 1, none⟩ = false := frozen_of_row _ _ _ _ _ HB7.out
      have f2 : w7.frozen? ⟨w.heap.size, 2, none⟩ = false := frozen_of_row _ _ _ _ _ HB7.out
      have hne : w.heap.size ≠ w5.heap.size := by omega
      have i1 : -9223372036854775808 ≤ r2 + 1 ∧ r2 + 1 ≤ 9223372036854775807 := by omega
      clear g7 C7 c7 HG9 HB9 HR9
      cases o7
      · go_wp2_with fail
        have HF := bk_put3 HB7.out (.int .i64 97) (.int .i64 m2) (.int .i64 r2)
        have q0 := HF.c (i := 0) rfl
        have q1 := HF.c (i := 1) rfl
        have q2 := HF.c (i := 2) rfl
        exact bodyPost_ret (v := .agg #[.int .i64 97, .int .i64 m2, .int .i64 r2]) (by simp [results, Tryd.results16, go_sem, q0, q1, q2]) rfl ⟨97, m2, r2, rfl, k3, HN.out, chg_own (chg_own (chg_own HG7.out (Nat.le_refl _) _) (Nat.le_refl _) _) (Nat.le_refl _) _, (cu_own (cu_own (cu_own HC7.out (by omega) _) (by omega) _) (by omega) _).mono (by omega)⟩
      · have hne2 : w5.heap.size ≠ w.heap.size := by omega
        go_wp2_with fail
        have HF := bk_put3 (bk_other HB7.out (p := ⟨w5.heap.size, 2, none⟩) (by omega) (.int .i64 (r2 + 1))) (.int .i64 97) (.int .i64 m2) (.int .i64 (r2 + 1))
        have q0 := HF.c (i := 0) rfl
        have q1 := HF.c (i := 1) rfl
        have q2 := HF.c (i := 2) rfl
        exact bodyPost_ret (v := .agg #[.int .i64 97, .int .i64 m2, .int .i64 (r2 + 1)]) (by simp [results, Tryd.results16, go_sem, q0, q1, q2]) rfl ⟨97, m2, r2 + 1, rfl, k3, HN.out, chg_own (chg_own (chg_own (chg_own HG7.out (by show _ ≤ w5.heap.size; omega) _) (Nat.le_refl _) _) (Nat.le_refl _) _) (Nat.le_refl _) _, (cu_own (cu_own (cu_own (cu_own HC7.out (by show _ < w5.heap.size; omega) _) (by omega) _) (by omega) _) (by omega) _).mono (by omega)⟩
    · obtain ⟨rfl, rfl, k3, k4, k5⟩ := h1 rfl
      clear h2
      have c7 := one_c HC6.out (by omega) hl 30 (by omega) (by omega)
      go_wp2_with fail
      refine c7.mono ?_
      rintro e w7 ⟨⟨o7, rfl⟩, g7, C7⟩
      have HG7 : Hid (Chg w w7 c (c + 1)) := HG6.out.trans g7
      have HB7 : Hid (Bk w7 w.heap.size #[.int .i64 0, .int .i64 0, .int .i64 0] 24) := HB6.out.chg g7 (Or.inr (by omega))
      have HR7 : Hid (Bk w7 w5.heap.size #[.int .i64 q, .int .i64 m, .int .i64 r] 24) := HR6.out.chg g7 (Or.inr (by omega))
      have HC7 : Hid (Cu w7 code len c (B + 2 + 2 + 2 + 2 + 2)) := C7.mono (by omega)
      have l7 := HB7.out.lt
      have x0 := HR7.out.c (i := 0) rfl
      have x1 := HR7.out.c (i := 1) rfl
      have x2 := HR7.out.c (i := 2) rfl
      have y0 := HB7.out.c (i := 0) rfl
      have y1 := HB7.out.c (i := 1) rfl
      have y2 := HB7.out.c (i := 2) rfl
      have fx : w7.frozen? ⟨w5.heap.size, 2, none⟩ = false := frozen_of_row _ _ _ _ _ HR7.out
      have f0 : w7.frozen? ⟨w.heap.size, 0, none⟩ = false := frozen_of_row _ _ _ _ _ HB7.out
      have f1 : w7.frozen? ⟨w.heap.size, 1, none⟩ = false := frozen_of_row _ _ _ _ _ HB7.out
      have f2 : w7.frozen? ⟨w.heap.size, 2, none⟩ = false := frozen_of_row _ _ _ _ _ HB7.out
      have hne : w.heap.size ≠ w5.heap.size := by omega
      have i1 : -9223372036854775808 ≤ r + 1 ∧ r + 1 ≤ 9223372036854775807 := by omega
      clear g7 C7 c7 HG6 HB6 HR6
      cases o7
      · go_wp2_with fail
        have HF := bk_put3 HB7.out (.int .i64 q) (.int .i64 m) (.int .i64 r)
        have q0 := HF.c (i := 0) rfl
        have q1 := HF.c (i := 1) rfl
        have q2 := HF.c (i := 2) rfl
        exact bodyPost_ret (v := .agg #[.int .i64 q, .int .i64 m, .int .i64 r]) (by simp [results, Tryd.results16, go_sem, q0, q1, q2]) rfl ⟨q, m, r, rfl, k3, HN.out, chg_own (chg_own (chg_own HG7.out (Nat.le_refl _) _) (Nat.le_refl _) _) (Nat.le_refl _) _, (cu_own (cu_own (cu_own HC7.out (by omega) _) (by omega) _) (by omega) _).mono (by omega)⟩
      · have hne2 : w5.heap.size ≠ w.heap.size := by omega
        go_wp2_with fail
        have HF := bk_put3 (bk_other HB7.out (p := ⟨w5.heap.size, 2, none⟩) (by omega) (.int .i64 (r + 1))) (.int .i64 q) (.int .i64 m) (.int .i64 (r + 1))
        have q0 := HF.c (i := 0) rfl
        have q1 := HF.c (i := 1) rfl
        have q2 := HF.c (i := 2) rfl
        exact bodyPost_ret (v := .agg #[.int .i64 q, .int .i64 m, .int .i64 (r + 1)]) (by simp [results, Tryd.results16, go_sem, q0, q1, q2]) rfl ⟨q, m, r + 1, rfl, k3, HN.out, chg_own (chg_own (chg_own (chg_own HG7.out (by show _ ≤ w5.heap.size; omega) _) (Nat.le_refl _) _) (Nat.le_refl _) _) (Nat.le_refl _) _, (cu_own (cu_own (cu_own (cu_own HC7.out (by show _ < w5.heap.size; omega) _) (by omega) _) (by omega) _) (by omega) _).mono (by omega)⟩
end Go.Proofs.YtpoogglplaeooaaDoor
