/- Proved: the contract of the draw of a polynomial at any size up to 32. -/
import Derived.Test.YtglbegbhekcddaaDoorDcu
import Derived.Deep.RegionHeld3
namespace Go.Proofs.YtglbegbhekcddaaDoor
open Go.ChangeShapes Go.WideShapes Go.ChangeAt Go.RowKit
set_option linter.unusedVariables false
set_option linter.unusedSimpArgs false
def CuLQ (w : World) (code : Value) (len c B : Nat) (e : Ending) (w' : World) : Prop :=
  ∃ a cp xs, e = .returned (.slice a xs.length cp) ∧ xs.length ≤ 33 ∧ Chg w w' c (c + 1) ∧ Cu w' code len c B ∧ Own w' w.heap.size (.slice a xs.length cp) xs
theorem bk_grownQ {w w' : World} {k : Nat} {cs : Array Value} {t : TypeId} {ob : Option Nat} (h : Bk w k cs t) (g : w.grownBy w' ob) (hk : ∀ j, ob = some j → k < j) : Bk w' k cs t :=
  (g.block k h.lt (fun e => by have := hk k e.symm; omega)).trans h
theorem lit1CQ (w : World) (x : Value) (t : TypeId) : ∀ j u, [x][j]? = some u → (w.alloc (.cells #[x] t)).cell? ((⟨w.heap.size, 0, none⟩ : Addr).add j) = some u := by
  intro j u h
  match j, h with
  | 0, h =>
    have : x = u := by simpa using h
    subst this
    exact cell_at w _ _ _ _ rfl
  | j + 1, h => simp at h
theorem lit1OQ (x : Int) : ∀ u ∈ [Value.int .i64 x], u.oneCell' = true := by simp [Value.oneCell']
theorem sliceOfRowQ {w : World} {base n : Nat} {v : Value} {cs : List Value} (h : w.ownsRow base 3 1 v n cs) : ∃ a c, v = .slice a n c := by
  rcases h.2 with ⟨h1, h2⟩ | ⟨g, cap, cur, h1, _⟩
  · exact ⟨none, 0, by rw [h1, h2]⟩
  · exact ⟨_, cap, h1⟩
theorem rowAllocQ {w : World} {base n : Nat} {v : Value} {cs : List Value} (h : w.ownsRow base 3 1 v n cs) (o : Obj) : (w.alloc o).ownsRow base 3 1 v n cs := by
  refine ⟨h.1, ?_⟩
  rcases h.2 with hn | ⟨p, cap, cur, rfl, hb, hgg, rest⟩
  · exact .inl hn
  · refine .inr ⟨p, cap, cur, rfl, hb, ?_, rest⟩
    rw [((Old.refl w).alloc o).block p (Array.getElem?_eq_some_iff.1 hgg).1]
    exact hgg
theorem u64_ofQ (x : Int) : ∃ X : Int, (0 ≤ X ∧ X ≤ 18446744073709551615) ∧ IntKind.u64.wrap x = X := by
  refine ⟨_, ?_, rfl⟩
  simp only [IntKind.wrap_u64]
  omega
set_option maxRecDepth 100000 in
set_option maxHeartbeats 8000000 in
theorem polyQ_c {w : World} {code : Value} {len c B : Nat} (h : Cu w code len c B) (hB : B ≤ 34359738368) (hl : len ≤ 9223372036854775807) (p n r : Int) (hp : 1 ≤ p ∧ p ≤ 268435456) (hn : 0 ≤ n ∧ n ≤ 32) :
    Calls Tryd.prog 44 #[.pointer (some ⟨c, 0, none⟩), .agg #[.int .i64 p, .int .i64 n, .int .i64 r]] w fun e w' => CuLQ w code len c (B + 1000) e w' := by
  obtain ⟨i0, hi, hz0, hz1, hz2⟩ := info_parts Tryd.infoInt
  have hcw := h.lt
  have C0 := h.old ((Old.refl w).alloc (.cells #[.int .i64 p, .int .i64 n, .int .i64 r] 40))
  have HG0 : Hid (Chg w (w.alloc (.cells #[.int .i64 p, .int .i64 n, .int .i64 r] 40)) c (c + 1)) := ((Old.refl w).alloc _).toChg _ _
  have HB0 : Hid (Bk (w.alloc (.cells #[.int .i64 p, .int .i64 n, .int .i64 r] 40)) w.heap.size #[.int .i64 p, .int .i64 n, .int .i64 r] 40) := Bk.new' w _ _ rfl
  have c1 := one_c C0 (by omega) hl 40 (by omega) (by omega)
  obtain ⟨n0, hn0, rfl⟩ : ∃ n0 : Nat, n0 ≤ 32 ∧ n = n0 := ⟨n.toNat, by omega, by omega⟩
  clear h C0 hn
  go_enter Tryd.func44, Tryd.ntmps44
  go_wp2_with fail
  refine c1.mono ?_
  rintro e w1 ⟨⟨o, rfl⟩, g1, C1⟩
  have HG1 : Hid (Chg w w1 c (c + 1)) := HG0.out.trans g1
  have HB1 : Hid (Bk w1 w.heap.size #[.int .i64 p, .int .i64 n0, .int .i64 r] 40) := HB0.out.chg g1 (Or.inr (by omega))
  have HC1 : Hid (Cu w1 code len c (B + 2 + 0)) := C1
  clear g1 c1 HG0 HB0 C1
  cases o
  · obtain ⟨n1, hn1, e1⟩ : ∃ n1 : Nat, n1 ≤ 33 ∧ (n0 : Int) = n1 := ⟨n0, by omega, rfl⟩
    go_wp2_with fail
    go_loopw [6, 5] (fun nv lv W => ∃ (j : Nat) (a : Option Addr) (cp : Nat) (xs : List Int), j ≤ n1 ∧ nv = .int .i64 ((n1 - j : Nat) : Int) ∧ lv = .slice a j cp ∧ Hid (xs.length = j) ∧ Hid (W.ownsRow (w.heap.size + 1) 3 1 (.slice a j cp) j (xs.map (Value.int .i64))) ∧ Hid (Cu W code len c (B + 2 + 20 * j)) ∧ Hid (Chg w W c (c + 1)) ∧ Hid (Bk W w.heap.size #[.int .i64 p, .int .i64 n0, .int .i64 r] 40)) (fun nv _ _ => (intOf nv).toNat)
    case atStart => exact ⟨0, none, 0, [], by omega, by first | rfl | (rw [e1]; rfl), rfl, rfl, ⟨rfl, .inl ⟨rfl, rfl⟩⟩, HC1, HG1, HB1⟩
    case round =>
      obtain ⟨j, a, cp, xs, hj, rfl, rfl, HL, HO, HC2, HG2, HB2⟩ := hrel
      clear HC1 HG1 HB1
      by_cases hlt : j < n1
      · obtain ⟨d, hd⟩ : ∃ d, n1 - j = d + 1 := ⟨n1 - j - 1, by omega⟩
        rw [hd]
        have dl : decide ((0 : Int) < ((d + 1 : Nat) : Int)) = true := decide_eq_true (by omega)
        have es : ((d + 1 : Nat) : Int) - 1 = (d : Int) := by omega
        have HD : Hid (n1 = j + 1 + d) := by show _ = _; omega
        have ld : d ≤ 33 := by omega
        have lj : j ≤ 33 := by omega
        clear hd hlt hj
        generalize d + 1 = d1 at *
        have HAS : Hid (∀ W', Chg wr W' c (c + 1) → W'.cell? ⟨w.heap.size, 0, none⟩ = some (.int .i64 p)) := fun W' q => (HB2.out.chg q (Or.inr (by omega))).c (i := 0) rfl
        have s0 := HAS.out wr ((Old.refl wr).toChg _ _)
        have rP : IntKind.u64.wrap p = p := by simp only [IntKind.wrap_u64]; omega
        have hp0 : p ≠ 0 := by omega
        have dp0 : (p == 0) = false := by simpa using hp0
        go_wp2_with fail
        go_region_held3 (fun W' => W'.cell? ⟨w.heap.size, 0, none⟩ = some (.int .i64 p)) (first | with_reducible exact HAS.out _ Q5.out | with_reducible exact HAS.out _ (Old.toChg (Below.drew (Old.refl _)) _ _) | with_reducible exact HAS.out _ (Old.toChg (Old.refl _) _ _)) (first
          | (go_at_call 58; refine (wide_c (HC2.out.old (Below.drew (Old.refl _))) (by omega) hl).mono ?_; rintro e w5 ⟨⟨x, hx, rfl⟩, q5, C5⟩; have Q5 : Hid (Chg wr w5 c (c + 1)) := (Old.toChg (Below.drew (Old.refl _)) _ _).trans q5; have HC3 : Hid (Cu w5 code len c (B + 2 + 20 * j + 8)) := C5; obtain ⟨X, hX, rX⟩ := u64_ofQ x; clear q5 C5)
          | fail)
        all_goals
          have HG3 : Hid (Chg w w5 c (c + 1)) := HG2.out.trans Q5.out
          have HB3 : Hid (Bk w5 w.heap.size #[.int .i64 p, .int .i64 n0, .int .i64 r] 40) := HB2.out.chg Q5.out (Or.inr (by omega))
          have HO3 : Hid (w5.ownsRow (w.heap.size + 1) 3 1 (.slice a j cp) j (xs.map (Value.int .i64))) := by
            have hx : Own wr (w.heap.size + 1) (.slice a j cp) xs := by unfold Own; rw [HL.out]; exact HO.out
            have := hx.chg Q5.out (fun p hp => Or.inr (by have := (hx.lt p hp).1; omega))
            unfold Own at this
            rw [HL.out] at this
            exact this
          have c2 := one_c HC3.out (by omega) hl 4 (by omega) (by omega)
          generalize IntKind.i64.wrap (X.tmod p) = y0 at *
          clear HG2 HB2 HO HC2 Q5 HC3 rX hX HAS s0
          go_wp2_with fail
          refine c2.mono ?_
          rintro e w2 ⟨⟨o, rfl⟩, g2, C2⟩
          have HG4 : Hid (Chg w w2 c (c + 1)) := HG3.out.trans g2
          have HB4 : Hid (Bk w2 w.heap.size #[.int .i64 p, .int .i64 n0, .int .i64 r] 40) := HB3.out.chg g2 (Or.inr (by omega))
          have HO4 : Hid (w2.ownsRow (w.heap.size + 1) 3 1 (.slice a j cp) j (xs.map (Value.int .i64))) := by
            have hx : Own w5 (w.heap.size + 1) (.slice a j cp) xs := by unfold Own; rw [HL.out]; exact HO3.out
            have := hx.chg g2 (fun p hp => Or.inr (by have := (hx.lt p hp).1; omega))
            unfold Own at this
            rw [HL.out] at this
            exact this
          have HC4 : Hid (Cu w2 code len c (B + 2 + 20 * j + 8 + 2)) := C2
          clear g2 C2 c2 HG3 HB3 HO3
          cases o
          · skip
            go_wp2_with (at_builtin; go_loud (refine wpList_append_own _ rfl _ _ 23 rfl (w.heap.size + 1) 3 i0 (.int .i64 0) 1 8 Tryd.underlying23 hi hz0 hz1 hz2 rfl (by decide) _ _ _ rfl (rowAllocQ HO4.out (.cells #[.int .i64 y0] 3)) ⟨w2.heap.size, 0, none⟩ 1 1 [.int .i64 y0] rfl rfl (lit1CQ _ _ _) (lit1OQ _) (by unfold maxLen; omega) (by omega) (by have := HG4.out.size; first | (simp; omega) | simpa using this) ?_; intro v5 w6 o5 g5 x5; obtain ⟨a5, c5, rfl⟩ := sliceOfRowQ o5; have HO5 : Hid (w6.ownsRow (w.heap.size + 1) 3 1 (.slice a5 (j + 1) c5) (j + 1) ((xs ++ [y0]).map (Value.int .i64))) := (by show World.ownsRow _ _ _ _ _ _ _; rw [List.map_append]; exact o5); have HG5 : Hid (Chg w w6 c (c + 1)) := chg_grown (chg_alloc HG4.out _) g5 (fun p hp => by have := (HO4.out.lt p hp).1; omega); have HC5 : Hid (Cu w6 code len c (B + 2 + 20 * j + 8 + 2)) := (HC4.out.old ((Old.refl w2).alloc _)).grown g5 (fun p hp => by have := (HO4.out.lt p hp).1; omega); have HB5 : Hid (Bk w6 w.heap.size #[.int .i64 p, .int .i64 n0, .int .i64 r] 40) := bk_grownQ (HB4.out.alloc _) g5 (fun p hp => by have := (HO4.out.lt p hp).1; omega); clear o5 g5 x5))
            exact ⟨⟨j + 1, a5, c5, xs ++ [y0], by have := HD.out; omega, by rw [show n1 - (j + 1) = d by have := HD.out; omega], rfl, by show (xs ++ [y0]).length = j + 1; rw [List.length_append, HL.out]; rfl, HO5, HC5.out.mono (by omega), HG5, HB5⟩, by simp [intOf]; omega⟩
          · have c3 := among_lit3 HC4.out (by omega) hl [0, 1, p - 1] (by simp) (by simp) 3
            have s1 := HB4.out.c (i := 0) rfl
            go_wp2_with fail
            refine c3.mono ?_
            rintro e w3 ⟨⟨y, hy, rfl⟩, g3, C3⟩
            have HG6 : Hid (Chg w w3 c (c + 1)) := HG4.out.trans g3
            have HB6 : Hid (Bk w3 w.heap.size #[.int .i64 p, .int .i64 n0, .int .i64 r] 40) := HB4.out.chg g3 (Or.inr (by omega))
            have HO6 : Hid (w3.ownsRow (w.heap.size + 1) 3 1 (.slice a j cp) j (xs.map (Value.int .i64))) := by
              have hx : Own w2 (w.heap.size + 1) (.slice a j cp) xs := by unfold Own; rw [HL.out]; exact HO4.out
              have := hx.chg g3 (fun p hp => Or.inr (by have := (hx.lt p hp).1; omega))
              unfold Own at this
              rw [HL.out] at this
              exact this
            have HC6 : Hid (Cu w3 code len c (B + 2 + 20 * j + 8 + 2 + 2)) := C3
            clear g3 C3 c3 HG4 HB4 HO4 HC4 hy s1
            go_wp2_with (at_builtin; go_loud (refine wpList_append_own _ rfl _ _ 23 rfl (w.heap.size + 1) 3 i0 (.int .i64 0) 1 8 Tryd.underlying23 hi hz0 hz1 hz2 rfl (by decide) _ _ _ rfl (rowAllocQ HO6.out (.cells #[.int .i64 y] 3)) ⟨w3.heap.size, 0, none⟩ 1 1 [.int .i64 y] rfl rfl (lit1CQ _ _ _) (lit1OQ _) (by unfold maxLen; omega) (by omega) (by have := HG6.out.size; first | (simp; omega) | simpa using this) ?_; intro v5 w6 o5 g5 x5; obtain ⟨a5, c5, rfl⟩ := sliceOfRowQ o5; have HO5 : Hid (w6.ownsRow (w.heap.size + 1) 3 1 (.slice a5 (j + 1) c5) (j + 1) ((xs ++ [y]).map (Value.int .i64))) := (by show World.ownsRow _ _ _ _ _ _ _; rw [List.map_append]; exact o5); have HG5 : Hid (Chg w w6 c (c + 1)) := chg_grown (chg_alloc HG6.out _) g5 (fun p hp => by have := (HO6.out.lt p hp).1; omega); have HC5 : Hid (Cu w6 code len c (B + 2 + 20 * j + 8 + 2 + 2)) := (HC6.out.old ((Old.refl w3).alloc _)).grown g5 (fun p hp => by have := (HO6.out.lt p hp).1; omega); have HB5 : Hid (Bk w6 w.heap.size #[.int .i64 p, .int .i64 n0, .int .i64 r] 40) := bk_grownQ (HB6.out.alloc _) g5 (fun p hp => by have := (HO6.out.lt p hp).1; omega); clear o5 g5 x5))
            exact ⟨⟨j + 1, a5, c5, xs ++ [y], by have := HD.out; omega, by rw [show n1 - (j + 1) = d by have := HD.out; omega], rfl, by show (xs ++ [y]).length = j + 1; rw [List.length_append, HL.out]; rfl, HO5, HC5.out.mono (by omega), HG5, HB5⟩, by simp [intOf]; omega⟩
      · obtain rfl : j = n1 := by omega
        rw [Nat.sub_self]
        have c2 := one_c HC2.out (by omega) hl 60 (by omega) (by omega)
        go_wp2_with fail
        refine c2.mono ?_
        rintro e w2 ⟨⟨o, rfl⟩, g2, C2⟩
        have HG3 : Hid (Chg w w2 c (c + 1)) := HG2.out.trans g2
        have HB3 : Hid (Bk w2 w.heap.size #[.int .i64 p, .int .i64 n0, .int .i64 r] 40) := HB2.out.chg g2 (Or.inr (by omega))
        have HO3 : Hid (Own w2 (w.heap.size + 1) (.slice a j cp) xs) := by
          have hx : Own wr (w.heap.size + 1) (.slice a j cp) xs := by unfold Own; rw [HL.out]; exact HO.out
          exact hx.chg g2 (fun p hp => Or.inr (by have := (hx.lt p hp).1; omega))
        have HC3 : Hid (Cu w2 code len c (B + 2 + 20 * j + 2)) := C2
        have HE : Hid (∀ (w' : World) (v : Value) (ys : List Int) (K : Nat), ys.length = j → v = .slice a j cp → Chg w w' c (c + 1) → Cu w' code len c K → K ≤ B + 1000 → Own w' (w.heap.size + 1) v ys → CuLQ w code len c (B + 1000) (.returned v) w') := fun w' v ys K h1 h2 h3 h4 h5 h6 => ⟨a, cp, ys, by rw [h1, h2], by rw [h1]; omega, h3, h4.mono h5, by rw [h1, ← h2]; exact h6.low (by omega)⟩
        clear g2 C2 c2 HG2 HO HC2 HB2
        cases o
        · go_wp2_with fail
          go_ret
          exact HE.out _ _ xs _ HL.out rfl HG3.out HC3.out (by omega) HO3.out
        · by_cases hj0 : 0 < j
          · have dl : decide ((0 : Int) < (j : Int)) = true := by simp; omega
            have c3 := among_lit3 HC3.out (by omega) hl [-1, p] (by simp) (by simp) 3
            have s1 := HB3.out.c (i := 0) rfl
            obtain ⟨g, rfl⟩ : ∃ g, a = some ⟨g, 0, none⟩ := by
              rcases HO3.out.2 with ⟨_, h1⟩ | ⟨g, cap, cur, e, _⟩
              · rw [HL.out] at h1; omega
              · injection e with e1
                exact ⟨g, e1⟩
            go_wp2_with fail
            refine c3.mono ?_
            rintro e w3 ⟨⟨y, hy, rfl⟩, g3, C3⟩
            have HG4 : Hid (Chg w w3 c (c + 1)) := HG3.out.trans g3
            have HO4 : Hid (Own w3 (w.heap.size + 1) (.slice (some ⟨g, 0, none⟩) j cp) xs) := HO3.out.chg g3 (fun p hp => Or.inr (by have := (HO3.out.lt p hp).1; omega))
            have HC4 : Hid (Cu w3 code len c (B + 2 + 20 * j + 2 + 2)) := C3
            have HO6 : Hid (w3.ownsRow (w.heap.size + 1) 3 1 (.slice (some ⟨g, 0, none⟩) j cp) j (xs.map (Value.int .i64))) := by
              have := HO4.out
              unfold Own at this
              rw [HL.out] at this
              exact this
            have k2 : w3.cell? ⟨g, 0, none⟩ = some (.int .i64 (xs.getD 0 0)) := by
              have hx0 : 0 < xs.length := by rw [HL.out]; exact hj0
              rw [World.ownsRow.cellAt HO6.out 0 (by omega)]
              simp [List.getD, hx0]
            have k3 : w3.frozen? ⟨g, 0, none⟩ = false := World.ownsRow.frozenAt HO6.out 0
            have st := World.ownsRow.stored HO6.out 0 (.int .i64 y)
            have HO5 : Hid (Own (w3.setCell ⟨g, 0, none⟩ (.int .i64 y)) (w.heap.size + 1) (.slice (some ⟨g, 0, none⟩) j cp) (xs.set 0 y)) := by
              have := st.1
              rw [← List.map_set] at this
              show Own _ _ _ _
              unfold Own
              rw [List.length_set, HL.out]
              exact this
            have HG5 : Hid (Chg w (w3.setCell ⟨g, 0, none⟩ (.int .i64 y)) c (c + 1)) := chg_grown HG4.out st.2 (fun p hp => by have := (HO4.out.lt p hp).1; omega)
            have HC5 : Hid (Cu (w3.setCell ⟨g, 0, none⟩ (.int .i64 y)) code len c (B + 2 + 20 * j + 2 + 2)) := HC4.out.grown st.2 (fun p hp => by have := (HO4.out.lt p hp).1; omega)
            generalize xs.getD 0 0 = z at k2
            clear g3 C3 c3 HG3 HO3 hy st HO4 HG4 HC4 HO6
            go_wp2_with fail
            go_ret
            exact HE.out _ _ (xs.set 0 y) _ (by rw [List.length_set]; exact HL.out) rfl HG5.out HC5.out (by omega) HO5.out
          · have dl : decide ((0 : Int) < (j : Int)) = false := by simp; omega
            go_wp2_with fail
            go_ret
            exact HE.out _ _ xs _ HL.out rfl HG3.out HC3.out (by omega) HO3.out
  · obtain ⟨n1, hn1, e1⟩ : ∃ n1 : Nat, n1 ≤ 33 ∧ (n0 : Int) + 1 = n1 := ⟨n0 + 1, by omega, by omega⟩
    go_wp2_with fail
    go_loopw [6, 5] (fun nv lv W => ∃ (j : Nat) (a : Option Addr) (cp : Nat) (xs : List Int), j ≤ n1 ∧ nv = .int .i64 ((n1 - j : Nat) : Int) ∧ lv = .slice a j cp ∧ Hid (xs.length = j) ∧ Hid (W.ownsRow (w.heap.size + 1) 3 1 (.slice a j cp) j (xs.map (Value.int .i64))) ∧ Hid (Cu W code len c (B + 2 + 20 * j)) ∧ Hid (Chg w W c (c + 1)) ∧ Hid (Bk W w.heap.size #[.int .i64 p, .int .i64 n0, .int .i64 r] 40)) (fun nv _ _ => (intOf nv).toNat)
    case atStart => exact ⟨0, none, 0, [], by omega, by first | rfl | (rw [e1]; rfl), rfl, rfl, ⟨rfl, .inl ⟨rfl, rfl⟩⟩, HC1, HG1, HB1⟩
    case round =>
      obtain ⟨j, a, cp, xs, hj, rfl, rfl, HL, HO, HC2, HG2, HB2⟩ := hrel
      clear HC1 HG1 HB1
      by_cases hlt : j < n1
      · obtain ⟨d, hd⟩ : ∃ d, n1 - j = d + 1 := ⟨n1 - j - 1, by omega⟩
        rw [hd]
        have dl : decide ((0 : Int) < ((d + 1 : Nat) : Int)) = true := decide_eq_true (by omega)
        have es : ((d + 1 : Nat) : Int) - 1 = (d : Int) := by omega
        have HD : Hid (n1 = j + 1 + d) := by show _ = _; omega
        have ld : d ≤ 33 := by omega
        have lj : j ≤ 33 := by omega
        clear hd hlt hj
        generalize d + 1 = d1 at *
        have HAS : Hid (∀ W', Chg wr W' c (c + 1) → W'.cell? ⟨w.heap.size, 0, none⟩ = some (.int .i64 p)) := fun W' q => (HB2.out.chg q (Or.inr (by omega))).c (i := 0) rfl
        have s0 := HAS.out wr ((Old.refl wr).toChg _ _)
        have rP : IntKind.u64.wrap p = p := by simp only [IntKind.wrap_u64]; omega
        have hp0 : p ≠ 0 := by omega
        have dp0 : (p == 0) = false := by simpa using hp0
        go_wp2_with fail
        go_region_held3 (fun W' => W'.cell? ⟨w.heap.size, 0, none⟩ = some (.int .i64 p)) (first | with_reducible exact HAS.out _ Q5.out | with_reducible exact HAS.out _ (Old.toChg (Below.drew (Old.refl _)) _ _) | with_reducible exact HAS.out _ (Old.toChg (Old.refl _) _ _)) (first
          | (go_at_call 58; refine (wide_c (HC2.out.old (Below.drew (Old.refl _))) (by omega) hl).mono ?_; rintro e w5 ⟨⟨x, hx, rfl⟩, q5, C5⟩; have Q5 : Hid (Chg wr w5 c (c + 1)) := (Old.toChg (Below.drew (Old.refl _)) _ _).trans q5; have HC3 : Hid (Cu w5 code len c (B + 2 + 20 * j + 8)) := C5; obtain ⟨X, hX, rX⟩ := u64_ofQ x; clear q5 C5)
          | fail)
        all_goals
          have HG3 : Hid (Chg w w5 c (c + 1)) := HG2.out.trans Q5.out
          have HB3 : Hid (Bk w5 w.heap.size #[.int .i64 p, .int .i64 n0, .int .i64 r] 40) := HB2.out.chg Q5.out (Or.inr (by omega))
          have HO3 : Hid (w5.ownsRow (w.heap.size + 1) 3 1 (.slice a j cp) j (xs.map (Value.int .i64))) := by
            have hx : Own wr (w.heap.size + 1) (.slice a j cp) xs := by unfold Own; rw [HL.out]; exact HO.out
            have := hx.chg Q5.out (fun p hp => Or.inr (by have := (hx.lt p hp).1; omega))
            unfold Own at this
            rw [HL.out] at this
            exact this
          have c2 := one_c HC3.out (by omega) hl 4 (by omega) (by omega)
          generalize IntKind.i64.wrap (X.tmod p) = y0 at *
          clear HG2 HB2 HO HC2 Q5 HC3 rX hX HAS s0
          go_wp2_with fail
          refine c2.mono ?_
          rintro e w2 ⟨⟨o, rfl⟩, g2, C2⟩
          have HG4 : Hid (Chg w w2 c (c + 1)) := HG3.out.trans g2
          have HB4 : Hid (Bk w2 w.heap.size #[.int .i64 p, .int .i64 n0, .int .i64 r] 40) := HB3.out.chg g2 (Or.inr (by omega))
          have HO4 : Hid (w2.ownsRow (w.heap.size + 1) 3 1 (.slice a j cp) j (xs.map (Value.int .i64))) := by
            have hx : Own w5 (w.heap.size + 1) (.slice a j cp) xs := by unfold Own; rw [HL.out]; exact HO3.out
            have := hx.chg g2 (fun p hp => Or.inr (by have := (hx.lt p hp).1; omega))
            unfold Own at this
            rw [HL.out] at this
            exact this
          have HC4 : Hid (Cu w2 code len c (B + 2 + 20 * j + 8 + 2)) := C2
          clear g2 C2 c2 HG3 HB3 HO3
          cases o
          · skip
            go_wp2_with (at_builtin; go_loud (refine wpList_append_own _ rfl _ _ 23 rfl (w.heap.size + 1) 3 i0 (.int .i64 0) 1 8 Tryd.underlying23 hi hz0 hz1 hz2 rfl (by decide) _ _ _ rfl (rowAllocQ HO4.out (.cells #[.int .i64 y0] 3)) ⟨w2.heap.size, 0, none⟩ 1 1 [.int .i64 y0] rfl rfl (lit1CQ _ _ _) (lit1OQ _) (by unfold maxLen; omega) (by omega) (by have := HG4.out.size; first | (simp; omega) | simpa using this) ?_; intro v5 w6 o5 g5 x5; obtain ⟨a5, c5, rfl⟩ := sliceOfRowQ o5; have HO5 : Hid (w6.ownsRow (w.heap.size + 1) 3 1 (.slice a5 (j + 1) c5) (j + 1) ((xs ++ [y0]).map (Value.int .i64))) := (by show World.ownsRow _ _ _ _ _ _ _; rw [List.map_append]; exact o5); have HG5 : Hid (Chg w w6 c (c + 1)) := chg_grown (chg_alloc HG4.out _) g5 (fun p hp => by have := (HO4.out.lt p hp).1; omega); have HC5 : Hid (Cu w6 code len c (B + 2 + 20 * j + 8 + 2)) := (HC4.out.old ((Old.refl w2).alloc _)).grown g5 (fun p hp => by have := (HO4.out.lt p hp).1; omega); have HB5 : Hid (Bk w6 w.heap.size #[.int .i64 p, .int .i64 n0, .int .i64 r] 40) := bk_grownQ (HB4.out.alloc _) g5 (fun p hp => by have := (HO4.out.lt p hp).1; omega); clear o5 g5 x5))
            exact ⟨⟨j + 1, a5, c5, xs ++ [y0], by have := HD.out; omega, by rw [show n1 - (j + 1) = d by have := HD.out; omega], rfl, by show (xs ++ [y0]).length = j + 1; rw [List.length_append, HL.out]; rfl, HO5, HC5.out.mono (by omega), HG5, HB5⟩, by simp [intOf]; omega⟩
          · have c3 := among_lit3 HC4.out (by omega) hl [0, 1, p - 1] (by simp) (by simp) 3
            have s1 := HB4.out.c (i := 0) rfl
            go_wp2_with fail
            refine c3.mono ?_
            rintro e w3 ⟨⟨y, hy, rfl⟩, g3, C3⟩
            have HG6 : Hid (Chg w w3 c (c + 1)) := HG4.out.trans g3
            have HB6 : Hid (Bk w3 w.heap.size #[.int .i64 p, .int .i64 n0, .int .i64 r] 40) := HB4.out.chg g3 (Or.inr (by omega))
            have HO6 : Hid (w3.ownsRow (w.heap.size + 1) 3 1 (.slice a j cp) j (xs.map (Value.int .i64))) := by
              have hx : Own w2 (w.heap.size + 1) (.slice a j cp) xs := by unfold Own; rw [HL.out]; exact HO4.out
              have := hx.chg g3 (fun p hp => Or.inr (by have := (hx.lt p hp).1; omega))
              unfold Own at this
              rw [HL.out] at this
              exact this
            have HC6 : Hid (Cu w3 code len c (B + 2 + 20 * j + 8 + 2 + 2)) := C3
            clear g3 C3 c3 HG4 HB4 HO4 HC4 hy s1
            go_wp2_with (at_builtin; go_loud (refine wpList_append_own _ rfl _ _ 23 rfl (w.heap.size + 1) 3 i0 (.int .i64 0) 1 8 Tryd.underlying23 hi hz0 hz1 hz2 rfl (by decide) _ _ _ rfl (rowAllocQ HO6.out (.cells #[.int .i64 y] 3)) ⟨w3.heap.size, 0, none⟩ 1 1 [.int .i64 y] rfl rfl (lit1CQ _ _ _) (lit1OQ _) (by unfold maxLen; omega) (by omega) (by have := HG6.out.size; first | (simp; omega) | simpa using this) ?_; intro v5 w6 o5 g5 x5; obtain ⟨a5, c5, rfl⟩ := sliceOfRowQ o5; have HO5 : Hid (w6.ownsRow (w.heap.size + 1) 3 1 (.slice a5 (j + 1) c5) (j + 1) ((xs ++ [y]).map (Value.int .i64))) := (by show World.ownsRow _ _ _ _ _ _ _; rw [List.map_append]; exact o5); have HG5 : Hid (Chg w w6 c (c + 1)) := chg_grown (chg_alloc HG6.out _) g5 (fun p hp => by have := (HO6.out.lt p hp).1; omega); have HC5 : Hid (Cu w6 code len c (B + 2 + 20 * j + 8 + 2 + 2)) := (HC6.out.old ((Old.refl w3).alloc _)).grown g5 (fun p hp => by have := (HO6.out.lt p hp).1; omega); have HB5 : Hid (Bk w6 w.heap.size #[.int .i64 p, .int .i64 n0, .int .i64 r] 40) := bk_grownQ (HB6.out.alloc _) g5 (fun p hp => by have := (HO6.out.lt p hp).1; omega); clear o5 g5 x5))
            exact ⟨⟨j + 1, a5, c5, xs ++ [y], by have := HD.out; omega, by rw [show n1 - (j + 1) = d by have := HD.out; omega], rfl, by show (xs ++ [y]).length = j + 1; rw [List.length_append, HL.out]; rfl, HO5, HC5.out.mono (by omega), HG5, HB5⟩, by simp [intOf]; omega⟩
      · obtain rfl : j = n1 := by omega
        rw [Nat.sub_self]
        have c2 := one_c HC2.out (by omega) hl 60 (by omega) (by omega)
        go_wp2_with fail
        refine c2.mono ?_
        rintro e w2 ⟨⟨o, rfl⟩, g2, C2⟩
        have HG3 : Hid (Chg w w2 c (c + 1)) := HG2.out.trans g2
        have HB3 : Hid (Bk w2 w.heap.size #[.int .i64 p, .int .i64 n0, .int .i64 r] 40) := HB2.out.chg g2 (Or.inr (by omega))
        have HO3 : Hid (Own w2 (w.heap.size + 1) (.slice a j cp) xs) := by
          have hx : Own wr (w.heap.size + 1) (.slice a j cp) xs := by unfold Own; rw [HL.out]; exact HO.out
          exact hx.chg g2 (fun p hp => Or.inr (by have := (hx.lt p hp).1; omega))
        have HC3 : Hid (Cu w2 code len c (B + 2 + 20 * j + 2)) := C2
        have HE : Hid (∀ (w' : World) (v : Value) (ys : List Int) (K : Nat), ys.length = j → v = .slice a j cp → Chg w w' c (c + 1) → Cu w' code len c K → K ≤ B + 1000 → Own w' (w.heap.size + 1) v ys → CuLQ w code len c (B + 1000) (.returned v) w') := fun w' v ys K h1 h2 h3 h4 h5 h6 => ⟨a, cp, ys, by rw [h1, h2], by rw [h1]; omega, h3, h4.mono h5, by rw [h1, ← h2]; exact h6.low (by omega)⟩
        clear g2 C2 c2 HG2 HO HC2 HB2
        cases o
        · go_wp2_with fail
          go_ret
          exact HE.out _ _ xs _ HL.out rfl HG3.out HC3.out (by omega) HO3.out
        · by_cases hj0 : 0 < j
          · have dl : decide ((0 : Int) < (j : Int)) = true := by simp; omega
            have c3 := among_lit3 HC3.out (by omega) hl [-1, p] (by simp) (by simp) 3
            have s1 := HB3.out.c (i := 0) rfl
            obtain ⟨g, rfl⟩ : ∃ g, a = some ⟨g, 0, none⟩ := by
              rcases HO3.out.2 with ⟨_, h1⟩ | ⟨g, cap, cur, e, _⟩
              · rw [HL.out] at h1; omega
              · injection e with e1
                exact ⟨g, e1⟩
            go_wp2_with fail
            refine c3.mono ?_
            rintro e w3 ⟨⟨y, hy, rfl⟩, g3, C3⟩
            have HG4 : Hid (Chg w w3 c (c + 1)) := HG3.out.trans g3
            have HO4 : Hid (Own w3 (w.heap.size + 1) (.slice (some ⟨g, 0, none⟩) j cp) xs) := HO3.out.chg g3 (fun p hp => Or.inr (by have := (HO3.out.lt p hp).1; omega))
            have HC4 : Hid (Cu w3 code len c (B + 2 + 20 * j + 2 + 2)) := C3
            have HO6 : Hid (w3.ownsRow (w.heap.size + 1) 3 1 (.slice (some ⟨g, 0, none⟩) j cp) j (xs.map (Value.int .i64))) := by
              have := HO4.out
              unfold Own at this
              rw [HL.out] at this
              exact this
            have k2 : w3.cell? ⟨g, 0, none⟩ = some (.int .i64 (xs.getD 0 0)) := by
              have hx0 : 0 < xs.length := by rw [HL.out]; exact hj0
              rw [World.ownsRow.cellAt HO6.out 0 (by omega)]
              simp [List.getD, hx0]
            have k3 : w3.frozen? ⟨g, 0, none⟩ = false := World.ownsRow.frozenAt HO6.out 0
            have st := World.ownsRow.stored HO6.out 0 (.int .i64 y)
            have HO5 : Hid (Own (w3.setCell ⟨g, 0, none⟩ (.int .i64 y)) (w.heap.size + 1) (.slice (some ⟨g, 0, none⟩) j cp) (xs.set 0 y)) := by
              have := st.1
              rw [← List.map_set] at this
              show Own _ _ _ _
              unfold Own
              rw [List.length_set, HL.out]
              exact this
            have HG5 : Hid (Chg w (w3.setCell ⟨g, 0, none⟩ (.int .i64 y)) c (c + 1)) := chg_grown HG4.out st.2 (fun p hp => by have := (HO4.out.lt p hp).1; omega)
            have HC5 : Hid (Cu (w3.setCell ⟨g, 0, none⟩ (.int .i64 y)) code len c (B + 2 + 20 * j + 2 + 2)) := HC4.out.grown st.2 (fun p hp => by have := (HO4.out.lt p hp).1; omega)
            generalize xs.getD 0 0 = z at k2
            clear g3 C3 c3 HG3 HO3 hy st HO4 HG4 HC4 HO6
            go_wp2_with fail
            go_ret
            exact HE.out _ _ (xs.set 0 y) _ (by rw [List.length_set]; exact HL.out) rfl HG5.out HC5.out (by omega) HO5.out
          · have dl : decide ((0 : Int) < (j : Int)) = false := by simp; omega
            go_wp2_with fail
            go_ret
            exact HE.out _ _ xs _ HL.out rfl HG3.out HC3.out (by omega) HO3.out
end Go.Proofs.YtglbegbhekcddaaDoor
