/- Proved: several texts in one: what each proves is said ahead of it. -/
import Derived.Test.YtpebikjckhcgfaaDoorZ91
import Derived.Test.YtpebikjckhcgfaaDoorZ12
import Derived.Test.YtpebikjckhcgfaaDoorZS0
/- Proved: contracts of what is drawn for chapter 3: a ring with a modulus in range, polynomials of at most 17 numbers; nothing that was there changes but the cursor. -/
namespace Go.Proofs.YtpebikjckhcgfaaDoor
open Go.ChangeShapes Go.WideShapes Go.ChangeAt Go.RowKit
set_option linter.unusedVariables false
set_option linter.unusedSimpArgs false
theorem chg_alloc {a b : World} {lo hi : Nat} (h : Chg a b lo hi) (o : Obj) : Chg a (b.alloc o) lo hi := h.trans (((Old.refl b).alloc o).toChg lo hi)
theorem chg_own {w W : World} {lo hi : Nat} (h : Chg w W lo hi) {p : Addr} (hp : w.heap.size ≤ p.block) (x : Value) : Chg w (W.setCell p x) lo hi :=
  ⟨h.os, h.tape, h.output, by rw [World.size_setCell]; exact h.size, fun b hb ho => by rw [heap_setCell_other _ _ _ _ (by show b ≠ p.block; omega)]; exact h.block b hb ho⟩
theorem chg_grown {a b c : World} {lo hi : Nat} {ob : Option Nat} (h : Chg a b lo hi) (g : b.grownBy c ob) (hk : ∀ k, ob = some k → a.heap.size ≤ k) : Chg a c lo hi :=
  ⟨g.os.trans h.os, g.tape.trans h.tape, g.output.trans h.output, Nat.le_trans h.size g.size, fun k hk1 ho => (g.block k (Nat.lt_of_lt_of_le hk1 h.size) (fun e => by have := hk k e.symm; omega)).trans (h.block k hk1 ho)⟩
theorem bk_put3 {w : World} {k : Nat} {x y z : Value} {t : TypeId} (h : Bk w k #[x, y, z] t) (x' y' z' : Value) : Bk (((w.setCell ⟨k, 0, none⟩ x').setCell ⟨k, 1, none⟩ y').setCell ⟨k, 2, none⟩ z') k #[x', y', z'] t := by
  have h1 := heap_setCell_same w k 0 _ _ x' h
  have h2 := heap_setCell_same _ k 1 _ _ y' h1
  exact (heap_setCell_same _ k 2 _ _ z' h2).trans rfl
theorem bk_other {w : World} {k : Nat} {cs : Array Value} {t : TypeId} (h : Bk w k cs t) {p : Addr} (hp : k ≠ p.block) (x : Value) : Bk (w.setCell p x) k cs t :=
  (heap_setCell_other _ _ _ _ hp).trans h
theorem cu_own {w : World} {code : Value} {len c B : Nat} (h : Cu w code len c B) {p : Addr} (hp : c < p.block) (x : Value) : Cu (w.setCell p x) code len c B :=
  h.kept (by rw [World.size_setCell]; exact Nat.le_refl _) (fun b hb => heap_setCell_other _ _ _ _ (by show b ≠ p.block; omega))
/-- a literal of numbers as it lies in a new block -/
theorem row_lit3 (w : World) (xs : List Int) (h : 0 < xs.length) (t : TypeId) : Row (w.alloc (.cells (xs.map (Value.int .i64)).toArray t)) (.slice (some ⟨w.heap.size, 0, none⟩) xs.length xs.length) xs :=
  Or.inr ⟨w.heap.size, 0, xs.length, rfl, by simp, h, fun j hj => by rw [Nat.zero_add, cell_at _ _ _ _ _ rfl]; simp [List.getD, hj]⟩
theorem among_lit3 {w : World} {code : Value} {len c B : Nat} (h : Cu w code len c B) (hB : B ≤ 274877906944) (hl : len ≤ 9223372036854775807) (xs : List Int) (hn : 2 ≤ xs.length) (hn' : xs.length ≤ 1000) (t : TypeId) :
    Calls Tryd.prog 115 #[.pointer (some ⟨c, 0, none⟩), .slice (some ⟨w.heap.size, 0, none⟩) xs.length xs.length] (w.alloc (.cells (xs.map (Value.int .i64)).toArray t)) fun e w' => CuP (fun x => x ∈ xs) w code len c (B + 2) e w' := by
  refine (among_c (h.old ((Old.refl w).alloc _)) hB hl _ xs hn hn' (row_lit3 w xs (by omega) t) (fun b o n cap e => ?_)).mono ?_
  · injection e with e1
    injection e1 with e2
    injection e2 with e3
    have := h.lt
    omega
  · rintro e w' ⟨h1, h2, h3⟩
    exact ⟨h1, ((((Old.refl w).alloc _).toChg c (c + 1)).trans h2), h3⟩
/-- a list of numbers that is laid anew -/
def Lits (w : World) (xs : List Int) (e : Ending) (w' : World) : Prop := e = .returned (.slice (some ⟨w.heap.size, 0, none⟩) xs.length xs.length) ∧ Old w w' ∧ Row w' (.slice (some ⟨w.heap.size, 0, none⟩) xs.length xs.length) xs
abbrev prs10 : List Int := [268435361, 268435009, 268434977, 268434721, 268434401, 268433761, 268433569, 268433441, 268433377, 268433057]
abbrev sml9 : List Int := [97, 193, 257, 353, 449, 577, 641, 673, 769]
/-- one of a list that was laid anew since -/
theorem among_of {w W : World} {code : Value} {len c B : Nat} (h : Cu w code len c B) (g : Old w W) (hB : B ≤ 274877906944) (hl : len ≤ 9223372036854775807) (xs : List Int) (hn : 2 ≤ xs.length) (hn' : xs.length ≤ 1000) (hr : Row W (.slice (some ⟨w.heap.size, 0, none⟩) xs.length xs.length) xs) :
    Calls Tryd.prog 115 #[.pointer (some ⟨c, 0, none⟩), .slice (some ⟨w.heap.size, 0, none⟩) xs.length xs.length] W fun e w' => CuP (fun x => x ∈ xs) w code len c (B + 2) e w' := by
  refine (among_c (h.old g) hB hl _ xs hn hn' hr (fun b o n cap e => ?_)).mono ?_
  · injection e with e1
    injection e1 with e2
    injection e2 with e3
    have := h.lt
    omega
  · rintro e w' ⟨h1, h2, h3⟩
    exact ⟨h1, ((g.toChg c (c + 1)).trans h2), h3⟩
/-- a size of a ring -/
def sz4I (n : Int) : Prop := n = 2 ∨ n = 4 ∨ n = 8 ∨ n = 16
set_option maxRecDepth 100000 in
set_option maxHeartbeats 2000000 in
theorem size_c {w : World} {code : Value} {len c B : Nat} (h : Cu w code len c B) (hB : B ≤ 137438953472) (hl : len ≤ 9223372036854775807) :
    Calls Tryd.prog 114 #[.pointer (some ⟨c, 0, none⟩)] w fun e w' => CuP sz4I w code len c (B + 2) e w' := by
  have c1 := among_lit3 h (by omega) hl [2, 4, 8, 16] (by decide) (by decide) 3
  go_enter Tryd.func114, Tryd.ntmps114
  go_wp2_with fail
  refine c1.mono ?_
  rintro e w1 ⟨⟨v, hv, rfl⟩, g1, C1⟩
  have HV : Hid (sz4I v) := by show sz4I v; simpa [sz4I] using hv
  have HG : Hid (Chg w w1 c (c + 1)) := g1
  have HC : Hid (Cu w1 code len c (B + 2)) := C1
  clear g1 C1 c1 hv h
  go_wp2_with fail
  go_ret
  exact ⟨⟨v, HV.out, rfl⟩, HG.out, HC.out⟩
/-- what RingOf of the model tells: a good ring, or none -/
theorem ringOf_c (p n : Int) (hp : -9223372036854775808 ≤ p ∧ p ≤ 9223372036854775807) : ∃ (q m r : Int) (ok : Bool), (ok = true → q = p ∧ m = n ∧ (2 ≤ q ∧ q ≤ 268435456) ∧ 0 ≤ r ∧ r < 268435456) ∧ (ok = false → ¬ RingOk p n)
    ∧ ∀ W, Calls Tryd.prog 67 #[.int .i64 p, .int .i64 n] W fun e w' => e = .returned (.tuple #[.agg #[.int .i64 q, .int .i64 m, .int .i64 r], .bool ok]) ∧ Old W w' := by
  by_cases h : RingOk p n
  · have h1 := modB_yes h.md
    have h2 := h.sz
    obtain ⟨P, rfl⟩ := Int.eq_ofNat_of_zero_le (show 0 ≤ p by omega)
    obtain ⟨M, rfl⟩ := Int.eq_ofNat_of_zero_le (show 0 ≤ n by omega)
    obtain ⟨R, r1, _, _, r2⟩ := Ring_both P M h
    exact ⟨P, M, R, true, fun _ => ⟨rfl, rfl, h1, by omega, by omega⟩, (fun e => by cases e), r2⟩
  · exact ⟨0, 0, 0, false, (fun e => by cases e), fun _ => h, fun W => spec_RingOf_no p n W hp h⟩
theorem ring97 {n : Int} (h : sz4I n) : RingOk 97 n := by
  refine ⟨h, by decide, by decide, ?_⟩
  rcases h with rfl | rfl | rfl | rfl <;> decide
/-- what a draw of a ring leaves -/
def CuG (w : World) (code : Value) (len c B : Nat) (e : Ending) (w' : World) : Prop :=
  ∃ p n r : Int, e = .returned (.agg #[.int .i64 p, .int .i64 n, .int .i64 r]) ∧ (2 ≤ p ∧ p ≤ 268435456) ∧ sz4I n ∧ Chg w w' c (c + 1) ∧ Cu w' code len c B
end Go.Proofs.YtpebikjckhcgfaaDoor
/- Proved: contracts of what is drawn for chapter 10: a size, a modulus in range, at most 17 slots; nothing that was there changes but the cursor; and of a number out of bytes. -/
namespace Go.Proofs.YtpebikjckhcgfaaDoor
open Go.ChangeShapes Go.WideShapes Go.ChangeAt Go.RowKit
set_option linter.unusedVariables false
set_option linter.unusedSimpArgs false
theorem lit1CS (w : World) (x : Value) (t : TypeId) : ∀ j u, [x][j]? = some u → (w.alloc (.cells #[x] t)).cell? ((⟨w.heap.size, 0, none⟩ : Addr).add j) = some u := by
  intro j u h
  match j, h with
  | 0, h =>
    have : x = u := by simpa using h
    subst this
    exact cell_at w _ _ _ _ rfl
  | j + 1, h => simp at h
theorem lit1OS (x : Int) : ∀ u ∈ [Value.int .i64 x], u.oneCell' = true := by simp [Value.oneCell']
theorem sliceOfRowS {w : World} {base n : Nat} {v : Value} {cs : List Value} (h : w.ownsRow base 3 1 v n cs) : ∃ a c, v = .slice a n c := by
  rcases h.2 with ⟨h1, h2⟩ | ⟨g, cap, cur, h1, _⟩
  · exact ⟨none, 0, by rw [h1, h2]⟩
  · exact ⟨_, cap, h1⟩
theorem rowAllocS {w : World} {base n : Nat} {v : Value} {cs : List Value} (h : w.ownsRow base 3 1 v n cs) (o : Obj) : (w.alloc o).ownsRow base 3 1 v n cs := by
  refine ⟨h.1, ?_⟩
  rcases h.2 with hn | ⟨p, cap, cur, rfl, hb, hgg, rest⟩
  · exact .inl hn
  · refine .inr ⟨p, cap, cur, rfl, hb, ?_, rest⟩
    rw [((Old.refl w).alloc o).block p (Array.getElem?_eq_some_iff.1 hgg).1]
    exact hgg
theorem u64_ofS (x : Int) : ∃ X : Int, (0 ≤ X ∧ X ≤ 18446744073709551615) ∧ IntKind.u64.wrap x = X := by
  refine ⟨_, ?_, rfl⟩
  simp only [IntKind.wrap_u64]
  omega
/-- what a draw of a size and a modulus leaves -/
def CuR (w : World) (code : Value) (len c B : Nat) (e : Ending) (w' : World) : Prop :=
  ∃ n t : Int, e = .returned (.tuple #[.int .i64 n, .int .i64 t]) ∧ sz4I n ∧ (4 ≤ t ∧ t ≤ 65537) ∧ Chg w w' c (c + 1) ∧ Cu w' code len c B
/-- what a draw of a row leaves -/
def CuS (w : World) (code : Value) (len c B : Nat) (e : Ending) (w' : World) : Prop :=
  ∃ a cp xs, e = .returned (.slice a xs.length cp) ∧ xs.length ≤ 17 ∧ Chg w w' c (c + 1) ∧ Cu w' code len c B ∧ Own w' w.heap.size (.slice a xs.length cp) xs
set_option maxRecDepth 100000 in
set_option maxHeartbeats 8000000 in
theorem slotRing_c {w : World} {code : Value} {len c B : Nat} (h : Cu w code len c B) (hB : B ≤ 34359738368) (hl : len ≤ 9223372036854775807) :
    Calls Tryd.prog 59 #[.pointer (some ⟨c, 0, none⟩)] w fun e w' => CuR w code len c (B + 10) e w' := by
  have c1 := size_c h (by omega) hl
  clear h
  go_enter Tryd.func59, Tryd.ntmps59
  go_wp2_with fail
  refine c1.mono ?_
  rintro e w1 ⟨⟨n, hn, rfl⟩, g1, C1⟩
  have HN : Hid (sz4I n) := hn
  have HG1 : Hid (Chg w w1 c (c + 1)) := g1
  have HC1 : Hid (Cu w1 code len c (B + 2)) := C1
  have c2 := among_lit3 HC1.out (by omega) hl [97, 193, 257, 353, 12289] (by decide) (by decide) 3
  clear hn g1 C1 c1
  go_wp2_with fail
  refine c2.mono ?_
  rintro e w2 ⟨⟨t, ht, rfl⟩, g2, C2⟩
  have HTT : Hid (4 ≤ t ∧ t ≤ 65537) := by
    show _ ∧ _
    simp at ht
    omega
  have HG2 : Hid (Chg w w2 c (c + 1)) := HG1.out.trans g2
  have HC2 : Hid (Cu w2 code len c (B + 2 + 2)) := C2
  have c3 := one_c HC2.out (by omega) hl 16 (by omega) (by omega)
  clear ht g2 C2 c2 HG1 HC1
  go_wp2_with fail
  refine c3.mono ?_
  rintro e w3 ⟨⟨o, rfl⟩, g3, C3⟩
  have HG3 : Hid (Chg w w3 c (c + 1)) := HG2.out.trans g3
  have HC3 : Hid (Cu w3 code len c (B + 2 + 2 + 2)) := C3
  clear g3 C3 c3 HG2 HC2
  cases o
  · go_wp2_with fail
    go_ret2
    exact ⟨n, t, rfl, HN.out, HTT.out, HG3.out, HC3.out.mono (by omega)⟩
  · have c4 := among_lit3 HC3.out (by omega) hl [17, 65537, 91, 4] (by decide) (by decide) 3
    go_wp2_with fail
    refine c4.mono ?_
    rintro e w4 ⟨⟨u, hu, rfl⟩, g4, C4⟩
    have HU : Hid (4 ≤ u ∧ u ≤ 65537) := by
      show _ ∧ _
      simp at hu
      omega
    have HG4 : Hid (Chg w w4 c (c + 1)) := HG3.out.trans g4
    have HC4 : Hid (Cu w4 code len c (B + 2 + 2 + 2 + 2)) := C4
    clear g4 C4 c4 hu HG3 HC3
    go_wp2_with fail
    go_ret2
    exact ⟨n, u, rfl, HN.out, HU.out, HG4.out, HC4.out.mono (by omega)⟩
theorem rem_y (X t : Int) (hX : 0 ≤ X ∧ X ≤ 18446744073709551615) (ht : 4 ≤ t ∧ t ≤ 65537) : ∃ y : Int, (0 ≤ y ∧ y < t) ∧ X % t = y ∧ X.tmod t = y := by
  refine ⟨X % t, ⟨Int.emod_nonneg _ (by omega), Int.emod_lt_of_pos _ (by omega)⟩, rfl, ?_⟩
  exact Int.tmod_eq_emod_of_nonneg hX.1
set_option maxRecDepth 100000 in
set_option maxHeartbeats 8000000 in
theorem slots_c {w : World} {code : Value} {len c B : Nat} (h : Cu w code len c B) (hB : B ≤ 34359738368) (hl : len ≤ 9223372036854775807) (n t : Int) (ht : 4 ≤ t ∧ t ≤ 65537) (hn : sz4I n) :
    Calls Tryd.prog 60 #[.pointer (some ⟨c, 0, none⟩), .int .i64 n, .int .i64 t] w fun e w' => CuS w code len c (B + 1000) e w' := by
  obtain ⟨i0, hi, hz0, hz1, hz2⟩ := info_parts Tryd.infoInt
  have hcw := h.lt
  have c1 := one_c h (by omega) hl 40 (by omega) (by omega)
  obtain ⟨n0, hn0, rfl⟩ : ∃ n0 : Nat, n0 ≤ 16 ∧ n = n0 := ⟨n.toNat, by rcases hn with e | e | e | e <;> omega, by rcases hn with e | e | e | e <;> omega⟩
  clear h hn
  go_enter Tryd.func60, Tryd.ntmps60
  go_wp2_with fail
  refine c1.mono ?_
  rintro e w1 ⟨⟨o, rfl⟩, g1, C1⟩
  have HG1 : Hid (Chg w w1 c (c + 1)) := g1
  have HC1 : Hid (Cu w1 code len c (B + 2 + 0)) := C1
  clear g1 c1 C1
  cases o
  · obtain ⟨n1, hn1, e1⟩ : ∃ n1 : Nat, n1 ≤ 17 ∧ (n0 : Int) = n1 := ⟨n0, by omega, rfl⟩
    go_wp2_with fail
    go_loopw [1, 7] (fun nv lv W => ∃ (j : Nat) (a : Option Addr) (cp : Nat) (xs : List Int), j ≤ n1 ∧ nv = .int .i64 ((n1 - j : Nat) : Int) ∧ lv = .slice a j cp ∧ Hid (xs.length = j) ∧ Hid (W.ownsRow w.heap.size 3 1 (.slice a j cp) j (xs.map (Value.int .i64))) ∧ Hid (Cu W code len c (B + 2 + 20 * j)) ∧ Hid (Chg w W c (c + 1))) (fun nv _ _ => (intOf nv).toNat)
    case atStart => exact ⟨0, none, 0, [], by omega, by first | rfl | (rw [e1]; rfl), rfl, rfl, ⟨rfl, .inl ⟨rfl, rfl⟩⟩, HC1, HG1⟩
    case round =>
      obtain ⟨j, a, cp, xs, hj, rfl, rfl, HL, HO, HC2, HG2⟩ := hrel
      clear HC1 HG1
      by_cases hlt : j < n1
      · obtain ⟨d, hd⟩ : ∃ d, n1 - j = d + 1 := ⟨n1 - j - 1, by omega⟩
        rw [hd]
        have dl : decide ((0 : Int) < ((d + 1 : Nat) : Int)) = true := decide_eq_true (by omega)
        have es : ((d + 1 : Nat) : Int) - 1 = (d : Int) := by omega
        have HD : Hid (n1 = j + 1 + d) := by show _ = _; omega
        have ld : d ≤ 17 := by omega
        have lj : j ≤ 17 := by omega
        clear hd hlt hj
        generalize d + 1 = d1 at *
        have c2 := wide_c HC2.out (by omega) hl
        have rP : IntKind.u64.wrap t = t := by simp only [IntKind.wrap_u64]; omega
        have hp0 : t ≠ 0 := by omega
        have dp0 : (t == 0) = false := by simpa using hp0
        go_wp2_with fail
        refine c2.mono ?_
        rintro e w5 ⟨⟨x, hx, rfl⟩, g5, C5⟩
        have HG3 : Hid (Chg w w5 c (c + 1)) := HG2.out.trans g5
        have HC3 : Hid (Cu w5 code len c (B + 2 + 20 * j + 8)) := C5
        obtain ⟨X, hX, rX⟩ := u64_ofS x
        have HO3 : Hid (w5.ownsRow w.heap.size 3 1 (.slice a j cp) j (xs.map (Value.int .i64))) := by
          have hx : Own wr w.heap.size (.slice a j cp) xs := by unfold Own; rw [HL.out]; exact HO.out
          have := hx.chg g5 (fun p hp => Or.inr (by have := (hx.lt p hp).1; omega))
          unfold Own at this
          rw [HL.out] at this
          exact this
        obtain ⟨y0, hy0, ry1, ry2⟩ := rem_y X t hX (by omega)
        clear g5 C5 c2 HG2 HC2 HO
        go_wp2_with (at_builtin; refine wpList_append_own _ rfl _ _ 23 rfl w.heap.size 3 i0 (.int .i64 0) 1 8 Tryd.underlying23 hi hz0 hz1 hz2 rfl (by decide) _ _ _ rfl (rowAllocS HO3.out (.cells #[.int .i64 y0] 3)) ⟨w5.heap.size, 0, none⟩ 1 1 [.int .i64 y0] rfl rfl (lit1CS _ _ _) (lit1OS _) (by unfold maxLen; omega) (by omega) (by have := HG3.out.size; first | (simp; omega) | simpa using this) ?_; intro v6 w6 o6 g6 x6; obtain ⟨a6, c6, rfl⟩ := sliceOfRowS o6; have HO6 : Hid (w6.ownsRow w.heap.size 3 1 (.slice a6 (j + 1) c6) (j + 1) ((xs ++ [y0]).map (Value.int .i64))) := (by show World.ownsRow _ _ _ _ _ _ _; rw [List.map_append]; exact o6); have HG6 : Hid (Chg w w6 c (c + 1)) := chg_grown (chg_alloc HG3.out _) g6 (fun p hp => by have := (HO3.out.lt p hp).1; omega); have HC6 : Hid (Cu w6 code len c (B + 2 + 20 * j + 8)) := (HC3.out.old ((Old.refl w5).alloc _)).grown g6 (fun p hp => by have := (HO3.out.lt p hp).1; omega); clear o6 g6 x6)
        exact ⟨⟨j + 1, a6, c6, xs ++ [y0], by have := HD.out; omega, by rw [show n1 - (j + 1) = d by have := HD.out; omega], rfl, by show (xs ++ [y0]).length = j + 1; rw [List.length_append, HL.out]; rfl, HO6, HC6.out.mono (by omega), HG6⟩, by simp [intOf]; omega⟩
      · obtain rfl : j = n1 := by omega
        rw [Nat.sub_self]
        have c2 := one_c HC2.out (by omega) hl 60 (by omega) (by omega)
        go_wp2_with fail
        refine c2.mono ?_
        rintro e w2 ⟨⟨o, rfl⟩, g2, C2⟩
        have HG3 : Hid (Chg w w2 c (c + 1)) := HG2.out.trans g2
        have HO3 : Hid (Own w2 w.heap.size (.slice a j cp) xs) := by
          have hx : Own wr w.heap.size (.slice a j cp) xs := by unfold Own; rw [HL.out]; exact HO.out
          exact hx.chg g2 (fun p hp => Or.inr (by have := (hx.lt p hp).1; omega))
        have HC3 : Hid (Cu w2 code len c (B + 2 + 20 * j + 2)) := C2
        have HE : Hid (∀ (w' : World) (v : Value) (ys : List Int) (K : Nat), ys.length = j → v = .slice a j cp → Chg w w' c (c + 1) → Cu w' code len c K → K ≤ B + 1000 → Own w' w.heap.size v ys → CuS w code len c (B + 1000) (.returned v) w') := fun w' v ys K h1 h2 h3 h4 h5 h6 => ⟨a, cp, ys, by rw [h1, h2], by rw [h1]; omega, h3, h4.mono h5, by rw [h1, ← h2]; exact h6⟩
        clear g2 C2 c2 HG2 HO HC2
        cases o
        · go_wp2_with fail
          go_ret
          exact HE.out _ _ xs _ HL.out rfl HG3.out HC3.out (by omega) HO3.out
        · by_cases hj0 : 0 < j
          · have dl : decide ((0 : Int) < (j : Int)) = true := by simp; omega
            obtain ⟨g, rfl⟩ : ∃ g, a = some ⟨g, 0, none⟩ := by
              rcases HO3.out.2 with ⟨_, h1⟩ | ⟨g, cap, cur, e, _⟩
              · rw [HL.out] at h1; omega
              · injection e with e1
                exact ⟨g, e1⟩
            have HO6 : Hid (w2.ownsRow w.heap.size 3 1 (.slice (some ⟨g, 0, none⟩) j cp) j (xs.map (Value.int .i64))) := by
              have := HO3.out
              unfold Own at this
              rw [HL.out] at this
              exact this
            have k2 : w2.cell? ⟨g, 0, none⟩ = some (.int .i64 (xs.getD 0 0)) := by
              have hx0 : 0 < xs.length := by rw [HL.out]; exact hj0
              rw [World.ownsRow.cellAt HO6.out 0 (by omega)]
              simp [List.getD, hx0]
            have k3 : w2.frozen? ⟨g, 0, none⟩ = false := World.ownsRow.frozenAt HO6.out 0
            have st := World.ownsRow.stored HO6.out 0 (.int .i64 t)
            have HO5 : Hid (Own (w2.setCell ⟨g, 0, none⟩ (.int .i64 t)) w.heap.size (.slice (some ⟨g, 0, none⟩) j cp) (xs.set 0 t)) := by
              have := st.1
              rw [← List.map_set] at this
              show Own _ _ _ _
              unfold Own
              rw [List.length_set, HL.out]
              exact this
            have HG5 : Hid (Chg w (w2.setCell ⟨g, 0, none⟩ (.int .i64 t)) c (c + 1)) := chg_grown HG3.out st.2 (fun p hp => by have := (HO3.out.lt p hp).1; omega)
            have HC5 : Hid (Cu (w2.setCell ⟨g, 0, none⟩ (.int .i64 t)) code len c (B + 2 + 20 * j + 2)) := HC3.out.grown st.2 (fun p hp => by have := (HO3.out.lt p hp).1; omega)
            generalize xs.getD 0 0 = z at k2
            have hj1 : 0 < (j : Int) := by omega
            clear HG3 HO3 st HC3 HO6
            go_wp2_with fail
            go_ret
            exact HE.out _ _ (xs.set 0 t) _ (by rw [List.length_set]; exact HL.out) rfl HG5.out HC5.out (by omega) HO5.out
          · have dl : decide ((0 : Int) < (j : Int)) = false := by simp; omega
            go_wp2_with fail
            go_ret
            exact HE.out _ _ xs _ HL.out rfl HG3.out HC3.out (by omega) HO3.out
  · obtain ⟨n1, hn1, e1⟩ : ∃ n1 : Nat, n1 ≤ 17 ∧ (n0 : Int) + 1 = n1 := ⟨n0 + 1, by omega, by omega⟩
    go_wp2_with fail
    go_loopw [1, 7] (fun nv lv W => ∃ (j : Nat) (a : Option Addr) (cp : Nat) (xs : List Int), j ≤ n1 ∧ nv = .int .i64 ((n1 - j : Nat) : Int) ∧ lv = .slice a j cp ∧ Hid (xs.length = j) ∧ Hid (W.ownsRow w.heap.size 3 1 (.slice a j cp) j (xs.map (Value.int .i64))) ∧ Hid (Cu W code len c (B + 2 + 20 * j)) ∧ Hid (Chg w W c (c + 1))) (fun nv _ _ => (intOf nv).toNat)
    case atStart => exact ⟨0, none, 0, [], by omega, by first | rfl | (rw [e1]; rfl), rfl, rfl, ⟨rfl, .inl ⟨rfl, rfl⟩⟩, HC1, HG1⟩
    case round =>
      obtain ⟨j, a, cp, xs, hj, rfl, rfl, HL, HO, HC2, HG2⟩ := hrel
      clear HC1 HG1
      by_cases hlt : j < n1
      · obtain ⟨d, hd⟩ : ∃ d, n1 - j = d + 1 := ⟨n1 - j - 1, by omega⟩
        rw [hd]
        have dl : decide ((0 : Int) < ((d + 1 : Nat) : Int)) = true := decide_eq_true (by omega)
        have es : ((d + 1 : Nat) : Int) - 1 = (d : Int) := by omega
        have HD : Hid (n1 = j + 1 + d) := by show _ = _; omega
        have ld : d ≤ 17 := by omega
        have lj : j ≤ 17 := by omega
        clear hd hlt hj
        generalize d + 1 = d1 at *
        have c2 := wide_c HC2.out (by omega) hl
        have rP : IntKind.u64.wrap t = t := by simp only [IntKind.wrap_u64]; omega
        have hp0 : t ≠ 0 := by omega
        have dp0 : (t == 0) = false := by simpa using hp0
        go_wp2_with fail
        refine c2.mono ?_
        rintro e w5 ⟨⟨x, hx, rfl⟩, g5, C5⟩
        have HG3 : Hid (Chg w w5 c (c + 1)) := HG2.out.trans g5
        have HC3 : Hid (Cu w5 code len c (B + 2 + 20 * j + 8)) := C5
        obtain ⟨X, hX, rX⟩ := u64_ofS x
        have HO3 : Hid (w5.ownsRow w.heap.size 3 1 (.slice a j cp) j (xs.map (Value.int .i64))) := by
          have hx : Own wr w.heap.size (.slice a j cp) xs := by unfold Own; rw [HL.out]; exact HO.out
          have := hx.chg g5 (fun p hp => Or.inr (by have := (hx.lt p hp).1; omega))
          unfold Own at this
          rw [HL.out] at this
          exact this
        obtain ⟨y0, hy0, ry1, ry2⟩ := rem_y X t hX (by omega)
        clear g5 C5 c2 HG2 HC2 HO
        go_wp2_with (at_builtin; refine wpList_append_own _ rfl _ _ 23 rfl w.heap.size 3 i0 (.int .i64 0) 1 8 Tryd.underlying23 hi hz0 hz1 hz2 rfl (by decide) _ _ _ rfl (rowAllocS HO3.out (.cells #[.int .i64 y0] 3)) ⟨w5.heap.size, 0, none⟩ 1 1 [.int .i64 y0] rfl rfl (lit1CS _ _ _) (lit1OS _) (by unfold maxLen; omega) (by omega) (by have := HG3.out.size; first | (simp; omega) | simpa using this) ?_; intro v6 w6 o6 g6 x6; obtain ⟨a6, c6, rfl⟩ := sliceOfRowS o6; have HO6 : Hid (w6.ownsRow w.heap.size 3 1 (.slice a6 (j + 1) c6) (j + 1) ((xs ++ [y0]).map (Value.int .i64))) := (by show World.ownsRow _ _ _ _ _ _ _; rw [List.map_append]; exact o6); have HG6 : Hid (Chg w w6 c (c + 1)) := chg_grown (chg_alloc HG3.out _) g6 (fun p hp => by have := (HO3.out.lt p hp).1; omega); have HC6 : Hid (Cu w6 code len c (B + 2 + 20 * j + 8)) := (HC3.out.old ((Old.refl w5).alloc _)).grown g6 (fun p hp => by have := (HO3.out.lt p hp).1; omega); clear o6 g6 x6)
        exact ⟨⟨j + 1, a6, c6, xs ++ [y0], by have := HD.out; omega, by rw [show n1 - (j + 1) = d by have := HD.out; omega], rfl, by show (xs ++ [y0]).length = j + 1; rw [List.length_append, HL.out]; rfl, HO6, HC6.out.mono (by omega), HG6⟩, by simp [intOf]; omega⟩
      · obtain rfl : j = n1 := by omega
        rw [Nat.sub_self]
        have c2 := one_c HC2.out (by omega) hl 60 (by omega) (by omega)
        go_wp2_with fail
        refine c2.mono ?_
        rintro e w2 ⟨⟨o, rfl⟩, g2, C2⟩
        have HG3 : Hid (Chg w w2 c (c + 1)) := HG2.out.trans g2
        have HO3 : Hid (Own w2 w.heap.size (.slice a j cp) xs) := by
          have hx : Own wr w.heap.size (.slice a j cp) xs := by unfold Own; rw [HL.out]; exact HO.out
          exact hx.chg g2 (fun p hp => Or.inr (by have := (hx.lt p hp).1; omega))
        have HC3 : Hid (Cu w2 code len c (B + 2 + 20 * j + 2)) := C2
        have HE : Hid (∀ (w' : World) (v : Value) (ys : List Int) (K : Nat), ys.length = j → v = .slice a j cp → Chg w w' c (c + 1) → Cu w' code len c K → K ≤ B + 1000 → Own w' w.heap.size v ys → CuS w code len c (B + 1000) (.returned v) w') := fun w' v ys K h1 h2 h3 h4 h5 h6 => ⟨a, cp, ys, by rw [h1, h2], by rw [h1]; omega, h3, h4.mono h5, by rw [h1, ← h2]; exact h6⟩
        clear g2 C2 c2 HG2 HO HC2
        cases o
        · go_wp2_with fail
          go_ret
          exact HE.out _ _ xs _ HL.out rfl HG3.out HC3.out (by omega) HO3.out
        · by_cases hj0 : 0 < j
          · have dl : decide ((0 : Int) < (j : Int)) = true := by simp; omega
            obtain ⟨g, rfl⟩ : ∃ g, a = some ⟨g, 0, none⟩ := by
              rcases HO3.out.2 with ⟨_, h1⟩ | ⟨g, cap, cur, e, _⟩
              · rw [HL.out] at h1; omega
              · injection e with e1
                exact ⟨g, e1⟩
            have HO6 : Hid (w2.ownsRow w.heap.size 3 1 (.slice (some ⟨g, 0, none⟩) j cp) j (xs.map (Value.int .i64))) := by
              have := HO3.out
              unfold Own at this
              rw [HL.out] at this
              exact this
            have k2 : w2.cell? ⟨g, 0, none⟩ = some (.int .i64 (xs.getD 0 0)) := by
              have hx0 : 0 < xs.length := by rw [HL.out]; exact hj0
              rw [World.ownsRow.cellAt HO6.out 0 (by omega)]
              simp [List.getD, hx0]
            have k3 : w2.frozen? ⟨g, 0, none⟩ = false := World.ownsRow.frozenAt HO6.out 0
            have st := World.ownsRow.stored HO6.out 0 (.int .i64 t)
            have HO5 : Hid (Own (w2.setCell ⟨g, 0, none⟩ (.int .i64 t)) w.heap.size (.slice (some ⟨g, 0, none⟩) j cp) (xs.set 0 t)) := by
              have := st.1
              rw [← List.map_set] at this
              show Own _ _ _ _
              unfold Own
              rw [List.length_set, HL.out]
              exact this
            have HG5 : Hid (Chg w (w2.setCell ⟨g, 0, none⟩ (.int .i64 t)) c (c + 1)) := chg_grown HG3.out st.2 (fun p hp => by have := (HO3.out.lt p hp).1; omega)
            have HC5 : Hid (Cu (w2.setCell ⟨g, 0, none⟩ (.int .i64 t)) code len c (B + 2 + 20 * j + 2)) := HC3.out.grown st.2 (fun p hp => by have := (HO3.out.lt p hp).1; omega)
            generalize xs.getD 0 0 = z at k2
            have hj1 : 0 < (j : Int) := by omega
            clear HG3 HO3 st HC3 HO6
            go_wp2_with fail
            go_ret
            exact HE.out _ _ (xs.set 0 t) _ (by rw [List.length_set]; exact HL.out) rfl HG5.out HC5.out (by omega) HO5.out
          · have dl : decide ((0 : Int) < (j : Int)) = false := by simp; omega
            go_wp2_with fail
            go_ret
            exact HE.out _ _ xs _ HL.out rfl HG3.out HC3.out (by omega) HO3.out
/-- what is drawn for EncodeSlots -/
def Ds (w : World) (e : Ending) (w' : World) : Prop :=
  ∃ (n t : Int) (a : Option Addr) (cp : Nat) (xs : List Int), e = .returned (.tuple #[.int .i64 n, .int .i64 t, .slice a xs.length cp]) ∧ sz4I n ∧ (4 ≤ t ∧ t ≤ 65537) ∧ xs.length ≤ 17 ∧ Old w w' ∧ Own w' w.heap.size (.slice a xs.length cp) xs
set_option maxRecDepth 100000 in
set_option maxHeartbeats 8000000 in
theorem drawEncodeSlots_c (w : World) (code : Value) (len : Nat) (h : BysW w code len) (hl : len ≤ 9223372036854775807) :
    Calls Tryd.prog 15 #[code] w (Ds w) := by
  obtain ⟨ca, ccap, hcode⟩ : ∃ ca ccap, code = .slice ca len ccap := by
    rcases h with ⟨a, cap, e, e2⟩ | ⟨b, o, cap, e, _⟩
    · exact ⟨a, cap, by rw [e, e2]⟩
    · exact ⟨_, cap, e⟩
  have C0 := Cu.new h
  subst hcode
  have c1 := slotRing_c C0 (by omega) hl
  clear h C0
  go_enter Tryd.func15, Tryd.ntmps15
  go_wp2_with fail
  refine c1.mono ?_
  rintro e w1 ⟨n, t, rfl, hn, ht, g1, C1⟩
  have HN : Hid (sz4I n) := hn
  have HTT : Hid (4 ≤ t ∧ t ≤ 65537) := ht
  have HG1 : Hid (Old w w1) := ((Old.refl w).alloc _).chg g1 (Nat.le_refl _)
  have c2 := slots_c C1 (by omega) hl n t ht hn
  clear hn ht g1 C1 c1
  go_wp2_with fail
  refine c2.mono ?_
  rintro e w2 ⟨a, cp, xs, rfl, lx, g2, C2, o2⟩
  have HG2 : Hid (Old w w2) := HG1.out.chg g2 (Nat.le_refl _)
  have HO : Hid (Own w2 w.heap.size (.slice a xs.length cp) xs) := o2.low HG1.out.size
  have HL : Hid (xs.length ≤ 17) := lx
  clear lx g2 C2 o2 c2
  go_wp2_with fail
  exact bodyPost_ret (v := .tuple #[.int .i64 n, .int .i64 t, .slice a xs.length cp]) (by simp [results, Tryd.results15, go_sem]) rfl ⟨n, t, a, cp, xs, rfl, HN.out, HTT.out, HL.out, HG2.out, HO.out⟩
set_option maxRecDepth 100000 in
set_option maxHeartbeats 8000000 in
theorem numberOf_c (w : World) (v : Value) (len : Nat) (h : BysW w v len) (hl : len ≤ 9223372036854775807) :
    Calls Tryd.prog 21 #[v] w fun e w' => ∃ n : Nat, e = .returned (.int .i64 n) ∧ n < 1000003 ∧ w' = w := by
  obtain ⟨ca, ccap, hcode⟩ : ∃ ca ccap, v = .slice ca len ccap := by
    rcases h with ⟨a, cap, e, e2⟩ | ⟨b, o, cap, e, _⟩
    · exact ⟨a, cap, by rw [e, e2]⟩
    · exact ⟨_, cap, e⟩
  subst hcode
  have HB : Hid (∀ j, j < len → ∃ b o, ca = some ⟨b, o, none⟩ ∧ ∃ x : Nat, x ≤ 255 ∧ w.cell? ⟨b, o + j, none⟩ = some (.int .u8 x)) := fun j hj => by
    rcases h with ⟨a, cap, e, e2⟩ | ⟨b, o, cap, e, hb, hbt⟩
    · omega
    · injection e with e1
      obtain ⟨x, hx, hc⟩ := hbt j hj
      obtain ⟨X, rfl⟩ := Int.eq_ofNat_of_zero_le hx.1
      exact ⟨b, o, e1, X, by omega, hc⟩
  clear h
  go_enter Tryd.func21, Tryd.ntmps21
  go_wp2_with fail
  go_loopw [3, 8] (fun x i W => ∃ k n : Nat, k ≤ len ∧ i = .int .i64 k ∧ x = .int .i64 n ∧ n < 1000003 ∧ W = w) (fun _ i _ => len - (intOf i).toNat)
  case atStart => exact ⟨0, 0, by omega, rfl, rfl, by omega, rfl⟩
  case round =>
    obtain ⟨k, n, hk, rfl, rfl, hn, hw⟩ := hrel
    subst hw
    by_cases hlt : k < len
    · have d1 : decide ((k : Int) < (len : Int)) = true := by simp; omega
      have ki : (k : Int) < (len : Int) := by omega
      obtain ⟨b, o, rfl, x, hx, hc⟩ := HB.out k hlt
      have e1 : (31 : Int) * (n : Int) + (x : Int) = ((31 * n + x : Nat) : Int) := by omega
      have hm : 31 * n + x ≤ 31000500 := by omega
      have e2 : ((31 * n + x : Nat) : Int) % 1000003 = (((31 * n + x) % 1000003 : Nat) : Int) := by simp
      have e3 : ((31 * n + x : Nat) : Int).tmod 1000003 = (((31 * n + x) % 1000003 : Nat) : Int) := by rw [Int.tmod_eq_emod_of_nonneg (by omega)]; exact e2
      have hq : (31 * n + x) % 1000003 < 1000003 := Nat.mod_lt _ (by omega)
      generalize (31 * n + x) % 1000003 = q at *
      generalize 31 * n + x = m at *
      go_wp2_with fail
      exact ⟨⟨k + 1, q, by omega, by go_num, rfl, hq, (by first | rfl | trivial)⟩, by simp [intOf]; omega⟩
    · have d1 : decide ((k : Int) < (len : Int)) = false := by simp; omega
      go_wp2_with fail
      go_ret
      exact ⟨n, rfl, hn, rfl⟩
end Go.Proofs.YtpebikjckhcgfaaDoor
