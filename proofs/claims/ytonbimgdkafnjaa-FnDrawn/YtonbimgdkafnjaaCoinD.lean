/- Proved: contracts of what is drawn for chapter 7: some words, numbers of which each lies in a small range; nothing that was there changes. -/
import Derived.Test.YtonbimgdkafnjaaCux
import Derived.Test.YtonbimgdkafnjaaCoin6
namespace Go.Proofs.Ytonbimgdkafnjaa
open Go.ChangeShapes Go.WideShapes Go.ChangeAt Go.RowKit
set_option linter.unusedVariables false
set_option linter.unusedSimpArgs false
theorem own_fit {w : World} {base : Nat} {v : Value} {xs : List Int} (h : Own w base v xs) : Fit7 v := by
  rcases h.2 with ⟨h1, h2⟩ | ⟨g, cap, cur, h1, hb, hg, h2, _⟩
  · subst h1; exact Nat.le_refl _
  · subst h1; exact h2
/-- a literal of numbers as it lies in a new block -/
theorem row_lit (w : World) (xs : List Int) (h : 0 < xs.length) (t : TypeId) : Row (w.alloc (.cells (xs.map (Value.int .i64)).toArray t)) (.slice (some ⟨w.heap.size, 0, none⟩) xs.length xs.length) xs :=
  Or.inr ⟨w.heap.size, 0, xs.length, rfl, by simp, h, fun j hj => by rw [Nat.zero_add, cell_at _ _ _ _ _ rfl]; simp [List.getD, hj]⟩
theorem among_lit {w : World} {code : Value} {len c B : Nat} (h : Cu w code len c B) (hB : B ≤ 274877906944) (hl : len ≤ 9223372036854775807) (xs : List Int) (hn : 2 ≤ xs.length) (hn' : xs.length ≤ 1000) (t : TypeId) :
    Calls Try.prog 87 #[.pointer (some ⟨c, 0, none⟩), .slice (some ⟨w.heap.size, 0, none⟩) xs.length xs.length] (w.alloc (.cells (xs.map (Value.int .i64)).toArray t)) fun e w' => CuP (fun x => x ∈ xs) w code len c (B + 2) e w' := by
  refine (among_c (h.old ((Old.refl w).alloc _)) hB hl _ xs hn hn' (row_lit w xs (by omega) t) (fun b o n cap e => ?_)).mono ?_
  · injection e with e1
    injection e1 with e2
    injection e2 with e3
    have := h.lt
    omega
  · rintro e w' ⟨h1, h2, h3⟩
    exact ⟨h1, ((((Old.refl w).alloc _).toChg c (c + 1)).trans h2), h3⟩
theorem andW (x : Int) : ∃ M : Int, bits BinOp.and IntKind.i64 x 4294967295 = M := ⟨_, rfl⟩
/-- what a draw of a row leaves -/
def CuR (L : Nat → Prop) (w : World) (code : Value) (len c B : Nat) (e : Ending) (w' : World) : Prop :=
  ∃ v xs, e = .returned v ∧ L xs.length ∧ Chg w w' c (c + 1) ∧ Cu w' code len c B ∧ Own w' w.heap.size v xs
set_option maxRecDepth 100000 in
set_option maxHeartbeats 4000000 in
theorem words_c {w : World} {code : Value} {len c B : Nat} (h : Cu w code len c B) (hB : B ≤ 137438953472) (hl : len ≤ 9223372036854775807) (n0 : Nat) (hn : n0 ≤ 23) :
    Calls Try.prog 86 #[.pointer (some ⟨c, 0, none⟩), .int .i64 n0] w fun e w' => CuR (fun n => n = n0) w code len c (B + 1000) e w' := by
  obtain ⟨i0, hi, hz0, hz1, hz2⟩ := info_parts Try.infoInt
  have HC : Hid (Cu w code len c (B + 0)) := h
  have hcw := h.lt
  clear h
  go_enter Try.func86, Try.ntmps86
  go_wp2_with fail
  go_loopw [1, 5] (fun nv lv W => ∃ (j : Nat) (a : Option Addr) (cp : Nat) (xs : List Int), j ≤ n0 ∧ nv = .int .i64 ((n0 - j : Nat) : Int) ∧ lv = .slice a j cp ∧ Hid (xs.length = j) ∧ Hid (W.ownsRow w.heap.size 3 1 (.slice a j cp) j (xs.map (Value.int .i64))) ∧ Hid (Cu W code len c (B + 20 * j)) ∧ Hid (Chg w W c (c + 1))) (fun nv _ _ => (intOf nv).toNat)
  case atStart => exact ⟨0, none, 0, [], by omega, rfl, rfl, rfl, ⟨rfl, .inl ⟨rfl, rfl⟩⟩, HC, (Old.refl w).toChg _ _⟩
  case round =>
    obtain ⟨j, a, cp, xs, hj, rfl, rfl, HL, HO, HC1, HG1⟩ := hrel
    clear HC
    by_cases hlt : j < n0
    · obtain ⟨d, hd⟩ : ∃ d, n0 - j = d + 1 := ⟨n0 - j - 1, by omega⟩
      rw [hd]
      have dl : decide ((0 : Int) < ((d + 1 : Nat) : Int)) = true := decide_eq_true (by omega)
      have es : ((d + 1 : Nat) : Int) - 1 = (d : Int) := by omega
      have HD : Hid (n0 = j + 1 + d) := by show _ = _; omega
      have ld : d ≤ 23 := by omega
      have lj : j ≤ 22 := by omega
      clear hd hlt hj
      generalize d + 1 = d1 at *
      have c1 := wide_c HC1.out (by omega) hl
      go_wp2_with fail
      refine c1.mono ?_
      rintro e w1 ⟨⟨x, hx, rfl⟩, g1, C1⟩
      have HG2 : Hid (Chg w w1 c (c + 1)) := HG1.out.trans g1
      have HO2 : Hid (w1.ownsRow w.heap.size 3 1 (.slice a j cp) j (xs.map (Value.int .i64))) := by
        have hx : Own wr w.heap.size (.slice a j cp) xs := by unfold Own; rw [HL.out]; exact HO.out
        have := hx.chg g1 (fun p hp => Or.inr (by have := (hx.lt p hp).1; omega))
        unfold Own at this
        rw [HL.out] at this
        exact this
      have c2 := one_c C1 (by omega) hl 12 (by omega) (by omega)
      obtain ⟨M, rM⟩ := andW x
      clear g1 C1 c1 HG1 HO HC1
      go_wp2_with fail
      refine c2.mono ?_
      rintro e w2 ⟨⟨o, rfl⟩, g2, C2⟩
      have HG3 : Hid (Chg w w2 c (c + 1)) := HG2.out.trans g2
      have HO3 : Hid (w2.ownsRow w.heap.size 3 1 (.slice a j cp) j (xs.map (Value.int .i64))) := by
        have hx : Own w1 w.heap.size (.slice a j cp) xs := by unfold Own; rw [HL.out]; exact HO2.out
        have := hx.chg g2 (fun p hp => Or.inr (by have := (hx.lt p hp).1; omega))
        unfold Own at this
        rw [HL.out] at this
        exact this
      have HC3 : Hid (Cu w2 code len c (B + 20 * j + 8 + 2)) := C2
      clear g2 C2 c2 HG2 HO2
      cases o
      · go_wp2_with (at_builtin; refine wpList_append_own _ rfl _ _ 23 rfl w.heap.size 3 i0 (.int .i64 0) 1 8 Try.underlying23 hi hz0 hz1 hz2 rfl (by decide) _ _ _ rfl (ownsRow_alloc HO3.out (.cells #[.int .i64 M] 3)) ⟨w2.heap.size, 0, none⟩ 1 1 [.int .i64 M] rfl rfl (oneC _ _ _) (oneO _) (by unfold maxLen; omega) (by omega) (by have := HG3.out.size; simp; omega) ?_; intro v5 w5 o5 g5 x5; obtain ⟨a5, c5, rfl⟩ := own_slice o5; have HO5 : Hid (w5.ownsRow w.heap.size 3 1 (.slice a5 (j + 1) c5) (j + 1) ((xs ++ [M]).map (Value.int .i64))) := (by show World.ownsRow _ _ _ _ _ _ _; rw [List.map_append]; exact o5); have HG5 : Hid (Chg w w5 c (c + 1)) := (HG3.out.alloc _).grown g5 (fun p hp => (HO3.out.lt p hp).1); have HC5 : Hid (Cu w5 code len c (B + 20 * j + 8 + 2)) := (HC3.out.old ((Old.refl w2).alloc _)).grown g5 (fun p hp => by have := (HO3.out.lt p hp).1; omega); clear o5 g5 x5)
        exact ⟨⟨j + 1, a5, c5, xs ++ [M], by have := HD.out; omega, by rw [show n0 - (j + 1) = d by have := HD.out; omega], rfl, by show (xs ++ [M]).length = j + 1; rw [List.length_append, HL.out]; rfl, HO5, HC5.out.mono (by omega), HG5⟩, by simp [intOf]; omega⟩
      · have c3 := among_lit HC3.out (by omega) hl [0, 4294967295, 4294967294] (by decide) (by decide) 3
        go_wp2_with fail
        refine c3.mono ?_
        rintro e w3 ⟨⟨y, hy, rfl⟩, g3, C3⟩
        have HG4 : Hid (Chg w w3 c (c + 1)) := HG3.out.trans g3
        have HO4 : Hid (w3.ownsRow w.heap.size 3 1 (.slice a j cp) j (xs.map (Value.int .i64))) := by
          have hx : Own w2 w.heap.size (.slice a j cp) xs := by unfold Own; rw [HL.out]; exact HO3.out
          have := hx.chg g3 (fun p hp => Or.inr (by have := (hx.lt p hp).1; omega))
          unfold Own at this
          rw [HL.out] at this
          exact this
        have HC4 : Hid (Cu w3 code len c (B + 20 * j + 8 + 2 + 2)) := C3
        clear g3 C3 c3 HG3 HO3 hy
        go_wp2_with (at_builtin; refine wpList_append_own _ rfl _ _ 23 rfl w.heap.size 3 i0 (.int .i64 0) 1 8 Try.underlying23 hi hz0 hz1 hz2 rfl (by decide) _ _ _ rfl (ownsRow_alloc HO4.out (.cells #[.int .i64 y] 3)) ⟨w3.heap.size, 0, none⟩ 1 1 [.int .i64 y] rfl rfl (oneC _ _ _) (oneO _) (by unfold maxLen; omega) (by omega) (by have := HG4.out.size; simp; omega) ?_; intro v5 w5 o5 g5 x5; obtain ⟨a5, c5, rfl⟩ := own_slice o5; have HO5 : Hid (w5.ownsRow w.heap.size 3 1 (.slice a5 (j + 1) c5) (j + 1) ((xs ++ [y]).map (Value.int .i64))) := (by show World.ownsRow _ _ _ _ _ _ _; rw [List.map_append]; exact o5); have HG5 : Hid (Chg w w5 c (c + 1)) := (HG4.out.alloc _).grown g5 (fun p hp => (HO4.out.lt p hp).1); have HC5 : Hid (Cu w5 code len c (B + 20 * j + 8 + 2 + 2)) := (HC4.out.old ((Old.refl w3).alloc _)).grown g5 (fun p hp => by have := (HO4.out.lt p hp).1; omega); clear o5 g5 x5)
        exact ⟨⟨j + 1, a5, c5, xs ++ [y], by have := HD.out; omega, by rw [show n0 - (j + 1) = d by have := HD.out; omega], rfl, by show (xs ++ [y]).length = j + 1; rw [List.length_append, HL.out]; rfl, HO5, HC5.out.mono (by omega), HG5⟩, by simp [intOf]; omega⟩
    · obtain rfl : j = n0 := by omega
      rw [Nat.sub_self]
      have c2 := one_c HC1.out (by omega) hl 60 (by omega) (by omega)
      go_wp2_with fail
      refine c2.mono ?_
      rintro e w2 ⟨⟨o, rfl⟩, g2, C2⟩
      have HG3 : Hid (Chg w w2 c (c + 1)) := HG1.out.trans g2
      have HO3 : Hid (Own w2 w.heap.size (.slice a j cp) xs) := by
        have hx : Own wr w.heap.size (.slice a j cp) xs := by unfold Own; rw [HL.out]; exact HO.out
        exact hx.chg g2 (fun p hp => Or.inr (by have := (hx.lt p hp).1; omega))
      have HC3 : Hid (Cu w2 code len c (B + 20 * j + 2)) := C2
      clear g2 C2 c2 HG1 HO HC1
      cases o
      · go_wp2_with fail
        go_ret
        exact ⟨_, xs, rfl, HL.out, HG3.out, HC3.out.mono (by omega), HO3.out⟩
      · by_cases hj0 : 0 < j
        · have dl : decide ((0 : Int) < (j : Int)) = true := by simp; omega
          have c3 := among_lit HC3.out (by omega) hl [-1, 4294967296] (by decide) (by decide) 3
          obtain ⟨g, rfl⟩ : ∃ g, a = some ⟨g, 0, none⟩ := by
            rcases HO3.out.2 with ⟨_, h1⟩ | ⟨g, cap, cur, e, _⟩
            · rw [HL.out] at h1; omega
            · injection e with e1
              exact ⟨g, e1⟩
          go_wp2_with fail
          refine c3.mono ?_
          rintro e w3 ⟨⟨y, hy, rfl⟩, g3, C3⟩
          have HG4 : Hid (Chg w w3 c (c + 1)) := HG3.out.trans g3
          have HO4 : Hid (Own w3 w.heap.size (.slice (some ⟨g, 0, none⟩) j cp) xs) := HO3.out.chg g3 (fun p hp => Or.inr (by have := (HO3.out.lt p hp).1; omega))
          have HC4 : Hid (Cu w3 code len c (B + 20 * j + 2 + 2)) := C3
          have HO6 : Hid (w3.ownsRow w.heap.size 3 1 (.slice (some ⟨g, 0, none⟩) j cp) j (xs.map (Value.int .i64))) := by
            have := HO4.out
            unfold Own at this
            rw [HL.out] at this
            exact this
          have k2 : w3.cell? ⟨g, 0, none⟩ = some (.int .i64 (xs.getD 0 0)) := by
            have hx0 : 0 < xs.length := by rw [HL.out]; exact hj0
            rw [World.ownsRow.cellAt HO6.out 0 (by omega)]
            simp [List.getD, hx0]
          have k3 : w3.frozen? ⟨g, 0, none⟩ = false := World.ownsRow.frozenAt HO6.out 0
          have st := World.ownsRow.stored HO6.out 0 (.int .i64 y)
          have HO5 : Hid (Own (w3.setCell ⟨g, 0, none⟩ (.int .i64 y)) w.heap.size (.slice (some ⟨g, 0, none⟩) j cp) (xs.set 0 y)) := by
            have := st.1
            rw [← List.map_set] at this
            show Own _ _ _ _
            unfold Own
            rw [List.length_set, HL.out]
            exact this
          have HG5 : Hid (Chg w (w3.setCell ⟨g, 0, none⟩ (.int .i64 y)) c (c + 1)) := HG4.out.grown st.2 (fun p hp => (HO4.out.lt p hp).1)
          have HC5 : Hid (Cu (w3.setCell ⟨g, 0, none⟩ (.int .i64 y)) code len c (B + 20 * j + 2 + 2)) := HC4.out.grown st.2 (fun p hp => by have := (HO4.out.lt p hp).1; omega)
          generalize xs.getD 0 0 = z at k2
          clear g3 C3 c3 HG3 HO3 hy st HO4 HG4 HC4 HO6
          go_wp2_with fail
          go_ret
          exact ⟨_, xs.set 0 y, rfl, by show (xs.set 0 y).length = j; rw [List.length_set]; exact HL.out, HG5.out, HC5.out.mono (by omega), HO5.out⟩
        · have dl : decide ((0 : Int) < (j : Int)) = false := by simp; omega
          go_wp2_with fail
          go_ret
          exact ⟨_, xs, rfl, HL.out, HG3.out, HC3.out.mono (by omega), HO3.out⟩
end Go.Proofs.Ytonbimgdkafnjaa
