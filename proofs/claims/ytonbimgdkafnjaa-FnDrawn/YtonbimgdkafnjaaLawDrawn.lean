/- Proved: the walk of the statement on drawn coins: what is drawn lies where it should, and row by row it is one by one. -/
import Derived.Test.YtonbimgdkafnjaaCoin10
import Derived.Test.YtonbimgdkafnjaaCoinE
import Derived.Test.YtonbimgdkafnjaaCoinL
namespace Go.Proofs.Ytonbimgdkafnjaa
open Go.ChangeShapes Go.WideShapes Go.ChangeAt Go.RowKit
set_option linter.unusedVariables false
set_option linter.unusedSimpArgs false
theorem nD_row {ws : List Int} {b k : Nat} : ∀ n l K, drP (nD ws b) k n = some (l, K) → K = k + n ∧ ∀ i, i < n → k + i < ws.length ∧ l.getD i 0 = nz (ws.getD (k + i) 0).toNat b
  | 0, l, K, h => by simp [drP] at h; exact ⟨by omega, fun i hi => by omega⟩
  | n + 1, l, K, h => by
    simp only [drP] at h
    cases e : drP (nD ws b) k n with
    | none => rw [e] at h; simp at h
    | some q =>
      obtain ⟨l', k'⟩ := q
      rw [e] at h
      simp only at h
      have hl := drP_len n l' k' e
      obtain ⟨h1, h2⟩ := nD_row n l' k' e
      cases e2 : nD ws b k' with
      | none => rw [e2] at h; simp at h
      | some q2 =>
        obtain ⟨y, k2⟩ := q2
        rw [e2] at h
        simp only [Option.some.injEq, Prod.mk.injEq] at h
        unfold nD at e2
        split at e2
        case isTrue hlt =>
          simp only [Option.some.injEq, Prod.mk.injEq] at e2
          refine ⟨by omega, fun i hi => ?_⟩
          rw [← h.1]
          rcases Nat.lt_or_ge i n with h3 | h3
          · obtain ⟨h4, h5⟩ := h2 i h3
            refine ⟨h4, ?_⟩
            rw [← h5]
            simp [List.getD, List.getElem?_append_left (show i < l'.length by omega)]
          · obtain rfl : i = n := by omega
            refine ⟨by omega, ?_⟩
            rw [← h1, e2.1]
            simp [List.getD, ← hl]
        case isFalse => cases e2
theorem nz_le (x b : Nat) : -(b : Int) ≤ nz x b ∧ nz x b ≤ b := nzK_le x b b
theorem uD_more {ws : List Int} {p k k' : Nat} {x : Int} (h : uD ws p k = some (x, k')) : k < k' := by
  unfold uD at h
  split at h
  case isTrue hlt =>
    simp only [Option.some.injEq, Prod.mk.injEq] at h
    by_cases hk : k ≤ ws.length
    · have := (nx_stp ws (mulM p) (ws.length - k) k (by omega)).ge
      omega
    · rw [show ws.length - k = 0 by omega] at hlt
      have : k < ws.length := hlt
      omega
  case isFalse => cases h
theorem tD_row {ws : List Int} {k : Nat} : ∀ n l K, drP (tD ws) k n = some (l, K) → k + n ≤ K
  | 0, l, K, h => by simp [drP] at h; omega
  | n + 1, l, K, h => by
    simp only [drP] at h
    cases e : drP (tD ws) k n with
    | none => rw [e] at h; simp at h
    | some q =>
      obtain ⟨l', k'⟩ := q
      rw [e] at h
      simp only at h
      have h1 := tD_row n l' k' e
      cases e2 : tD ws k' with
      | none => rw [e2] at h; simp at h
      | some q2 =>
        obtain ⟨y, k2⟩ := q2
        rw [e2] at h
        simp only [Option.some.injEq, Prod.mk.injEq] at h
        unfold tD at e2
        cases e3 : uD ws 3 k' with
        | none => rw [e3] at e2; simp at e2
        | some q3 =>
          obtain ⟨y3, k3⟩ := q3
          rw [e3] at e2
          simp only [Option.some.injEq, Prod.mk.injEq] at e2
          have := uD_more e3
          omega
theorem tern_in {x : Int} (h : 0 ≤ x ∧ x < 3) : -1 ≤ tern x ∧ tern x ≤ 1 := by
  unfold tern
  split <;> omega
/-- what is said of a row of noise -/
theorem nRow_said {ws : List Int} {at_ b n : Int} (h : (nRow ws at_ b n).isSome = true) :
    (∀ j : Nat, j < (aL (nRow ws at_ b n)).length → nFrom ws (at_ + j) b = some ((aL (nRow ws at_ b n)).getD j 0, (at_ + j).toNat + 1) ∧ (at_ + j).toNat = at_ + j ∧ -b ≤ (aL (nRow ws at_ b n)).getD j 0 ∧ (aL (nRow ws at_ b n)).getD j 0 ≤ b) ∧ at_ + (aL (nRow ws at_ b n)).length = aK (nRow ws at_ b n) := by
  unfold nRow at h ⊢
  cases hg : mayB ws at_ n && inQ b 1 16
  · rw [hg] at h; cases h
  · rw [hg] at h
    simp only [if_true] at h ⊢
    obtain ⟨hm, hb⟩ := Bool.and_eq_true_iff.1 hg
    obtain ⟨h1, h2, ⟨h3, h4⟩, h5, h6⟩ := mayB_yes hm
    have hb2 : 1 ≤ b ∧ b ≤ 16 := by simpa [inQ] using hb
    cases e : drP (nD ws b.toNat) at_.toNat n.toNat with
    | none => rw [e] at h; cases h
    | some q =>
      obtain ⟨l, K⟩ := q
      obtain ⟨r1, r2⟩ := nD_row _ l K e
      have rl := drP_len _ l K e
      refine ⟨fun j hj => ?_, ?_⟩
      · have hj' : j < l.length := hj
        obtain ⟨r3, r4⟩ := r2 j (by omega)
        have ea : (at_ + j).toNat = at_.toNat + j := by omega
        have hz := nz_le (ws.getD (at_.toNat + j) 0).toNat b.toNat
        refine ⟨?_, by omega, ?_, ?_⟩
        · unfold nFrom
          have hat : atB ws (at_ + j) = true := by
            simp only [mayB, wsB, Bool.and_eq_true] at hm
            simp only [atB, wsB, inQ, Bool.and_eq_true, decide_eq_true_eq]
            exact ⟨⟨h2, h1⟩, by omega, by omega⟩
          rw [hat, hb]
          simp only [Bool.and_self, if_true]
          rw [ea]
          unfold nD
          rw [if_pos r3]
          show some _ = some (l.getD j 0, _)
          rw [r4]
        · show -b ≤ l.getD j 0
          rw [r4]; omega
        · show l.getD j 0 ≤ b
          rw [r4]; omega
      · show at_ + (l.length : Int) = (K : Int)
        omega
theorem tRow_said {ws : List Int} {at_ n : Int} : (∀ x ∈ aL (tRow ws at_ n), -1 ≤ x ∧ x ≤ 1) ∧ (aL (tRow ws at_ n)).length ≤ 64 ∧ ((tRow ws at_ n).isSome = true → at_ + n ≤ aK (tRow ws at_ n)) := by
  obtain ⟨_, _, t3⟩ := tRow_is ws at_ n
  obtain ⟨t4, t5⟩ := uRow3_in ws at_ n
  refine ⟨?_, by rw [t3, List.length_map]; exact t5, fun h => ?_⟩
  · rw [t3]
    intro x hx
    obtain ⟨y, hy, rfl⟩ := List.mem_map.1 hx
    exact tern_in (t4 y hy)
  · unfold tRow at h ⊢
    cases hg : mayB ws at_ n
    · rw [hg] at h; cases h
    · rw [hg] at h
      simp only [if_true] at h ⊢
      obtain ⟨_, _, ⟨h3, h4⟩, h5, h6⟩ := mayB_yes hg
      cases e : drP (tD ws) at_.toNat n.toNat with
      | none => rw [e] at h; cases h
      | some q =>
        obtain ⟨l, K⟩ := q
        have := tD_row _ l K e
        show at_ + n ≤ (K : Int)
        omega
set_option maxRecDepth 100000 in
set_option maxHeartbeats 8000000 in
theorem law_Drawn (w : World) (code : Value) (len : Nat) (h : BysW w code len) (hl : len ≤ 9223372036854775807) :
    Calls Try.prog 4 #[code] w fun e w' => e = .returned (.bool true) ∧ Old w w' := by
  have KD : Hid (Calls Try.prog 15 #[code] w fun e w' => ∃ a cp xs x y z, e = .returned (.tuple #[.slice a xs.length cp, .int .i64 x, .int .i64 y, .int .i64 z]) ∧ xs.length ≤ 23 ∧ sml x ∧ sml y ∧ sml z ∧ Old w w' ∧ Own w' w.heap.size (.slice a xs.length cp) xs) := drawNoiseRow_c w code len h hl
  obtain ⟨ca, ccap, hcode⟩ : ∃ ca ccap, code = .slice ca len ccap := by
    rcases h with ⟨a, cap, e, e2⟩ | ⟨b, o, cap, e, _⟩
    · exact ⟨a, cap, by rw [e, e2]⟩
    · exact ⟨_, cap, e⟩
  subst hcode
  clear h
  by_cases big : (1048576 : Int) < (len : Int)
  · have db : decide ((1048576 : Int) < (len : Int)) = true := decide_eq_true big
    go_enter Try.func4, Try.ntmps4
    go_wp2_with fail
    go_ret
    exact ⟨rfl, Old.refl _⟩
  have db : decide ((1048576 : Int) < (len : Int)) = false := decide_eq_false big
  clear big
  go_enter Try.func4, Try.ntmps4
  go_wp2_with fail
  refine KD.out.mono ?_
  rintro e w1 ⟨a, cp, xs, x, y, z, rfl, lx, ⟨sx1, sx2⟩, ⟨sy1, sy2⟩, ⟨sz1, sz2⟩, g1, o1⟩
  have HG1 : Hid (Old w w1) := g1
  have HO1 : Hid (Own w1 w.heap.size (.slice a xs.length cp) xs) := o1
  clear g1 o1 KD
  obtain ⟨K, hK⟩ : ∃ K, K = aK (nRow xs x y z) := ⟨_, rfl⟩
  obtain ⟨B, hB⟩ : ∃ B, B = (nRow xs x y z).isSome := ⟨_, rfl⟩
  obtain ⟨zs, hzs⟩ : ∃ zs, zs = aL (nRow xs x y z) := ⟨_, rfl⟩
  have lz : zs.length ≤ 1000 := by rw [hzs]; exact len_nRow xs x y z
  have HN : Hid (aK (nRow xs x y z) = K ∧ (nRow xs x y z).isSome = B ∧ aL (nRow xs x y z) = zs) := ⟨hK.symm, hB.symm, hzs.symm⟩
  have HS : Hid (B = true → (∀ j : Nat, j < zs.length → nFrom xs (x + j) y = some (zs.getD j 0, (x + j).toNat + 1) ∧ (x + j).toNat = x + j ∧ -y ≤ zs.getD j 0 ∧ zs.getD j 0 ≤ y) ∧ x + zs.length = K) := fun hb => by
    have := nRow_said (ws := xs) (at_ := x) (b := y) (n := z) (by rw [← hB]; exact hb)
    rw [← hzs, ← hK] at this
    exact this
  obtain ⟨K2, hK2⟩ : ∃ K, K = aK (tRow xs x z) := ⟨_, rfl⟩
  obtain ⟨B2, hB2⟩ : ∃ B, B = (tRow xs x z).isSome := ⟨_, rfl⟩
  obtain ⟨ts, hts⟩ : ∃ zs, zs = aL (tRow xs x z) := ⟨_, rfl⟩
  have HT : Hid (aK (tRow xs x z) = K2 ∧ (tRow xs x z).isSome = B2 ∧ aL (tRow xs x z) = ts) := ⟨hK2.symm, hB2.symm, hts.symm⟩
  obtain ⟨q1, q2, q3⟩ := tRow_said (ws := xs) (at_ := x) (n := z)
  rw [← hts] at q1 q2
  rw [← hB2, ← hK2] at q3
  have HTI : Hid (∀ x ∈ ts, -1 ≤ x ∧ x ≤ 1) := q1
  have HTK : Hid (B2 = true → x + z ≤ K2) := q3
  have lt2 : ts.length ≤ 64 := q2
  clear hK hB hzs hK2 hB2 hts q1 q2 q3
  have KN1 : Hid (∀ W, Old w1 W → Calls Try.prog 16 #[.slice a xs.length cp, .int .i64 x, .int .i64 y, .int .i64 z] W fun e w' => ∃ v', e = .returned (.tuple #[v', .int .i64 K, .bool B]) ∧ Hid (Old W w' ∧ Own w' W.heap.size v' zs)) := fun W g => (impl_NoiseRow xs _ x y z W ((Own.row HO1.out).old g) (own_fit HO1.out) (by omega)).mono fun e w' ⟨v', e1, e2⟩ => ⟨v', by rw [e1, ← HN.out.1, ← HN.out.2.1], by rw [← HN.out.2.2]; exact e2⟩
  have KN2 : Hid (∀ W, Old w1 W → Calls Try.prog 17 #[.slice a xs.length cp, .int .i64 x, .int .i64 y, .int .i64 z] W fun e w' => ∃ v', e = .returned (.tuple #[v', .int .i64 K, .bool B]) ∧ Hid (Old W w' ∧ Own w' W.heap.size v' zs)) := fun W g => (spec_NoiseRow xs _ x y z W ((Own.row HO1.out).old g) (by omega)).mono fun e w' ⟨v', e1, e2⟩ => ⟨v', by rw [e1, ← HN.out.1, ← HN.out.2.1], by rw [← HN.out.2.2]; exact e2⟩
  go_wp2_with fail
  refine (KN1.out _ (Old.refl _)).mono ?_
  rintro e w2 ⟨v2, rfl, HX2⟩
  obtain ⟨a2, c2, rfl⟩ := (Own.row HX2.out.2).slice
  go_wp2_with fail
  refine (KN2.out _ HX2.out.1).mono ?_
  rintro e w3 ⟨v3, rfl, HX3⟩
  obtain ⟨a3, c3, rfl⟩ := (Own.row HX3.out.2).slice
  have HG3 : Hid (Old w1 w3) := Old.trans HX2.out.1 HX3.out.1
  have HR3 : Hid (Row w3 (.slice a2 zs.length c2) zs) := (Own.row HX2.out.2).old HX3.out.1
  have dB1 : (B != B) = false := by simp
  clear HX2 HX3 KN1 KN2 HN
  cases hB : B
  · subst hB
    have HGo : Hid (Old w1 w3) := HG3
    -- the ternary row
    have KT1 : Hid (∀ W, Old w1 W → Calls Try.prog 19 #[.slice a xs.length cp, .int .i64 x, .int .i64 z] W fun e w' => ∃ v', e = .returned (.tuple #[v', .int .i64 K2, .bool B2]) ∧ Hid (Old W w' ∧ Own w' W.heap.size v' ts)) := fun W g => (impl_TernaryRow xs _ x z W ((Own.row HO1.out).old g) (own_fit HO1.out) (by omega)).mono fun e w' ⟨v', e1, e2⟩ => ⟨v', by rw [e1, ← HT.out.1, ← HT.out.2.1], by rw [← HT.out.2.2]; exact e2⟩
    have KT2 : Hid (∀ W, Old w1 W → Calls Try.prog 20 #[.slice a xs.length cp, .int .i64 x, .int .i64 z] W fun e w' => ∃ v', e = .returned (.tuple #[v', .int .i64 K2, .bool B2]) ∧ Hid (Old W w' ∧ Own w' W.heap.size v' ts)) := fun W g => (spec_TernaryRow xs _ x z W ((Own.row HO1.out).old g) (by omega)).mono fun e w' ⟨v', e1, e2⟩ => ⟨v', by rw [e1, ← HT.out.1, ← HT.out.2.1], by rw [← HT.out.2.2]; exact e2⟩
    go_wp2_with fail
    refine (KT1.out _ HGo.out).mono ?_
    rintro e w5 ⟨v5, rfl, HX5⟩
    obtain ⟨a5, c5, rfl⟩ := (Own.row HX5.out.2).slice
    have HG5 : Hid (Old w1 w5) := Old.trans HGo.out HX5.out.1
    go_wp2_with fail
    refine (KT2.out _ HG5.out).mono ?_
    rintro e w6 ⟨v6, rfl, HX6⟩
    obtain ⟨a6, c6, rfl⟩ := (Own.row HX6.out.2).slice
    have HG6 : Hid (Old w1 w6) := Old.trans HG5.out HX6.out.1
    have HR6 : Hid (Row w6 (.slice a5 ts.length c5) ts) := (Own.row HX5.out.2).old HX6.out.1
    have dB : (B2 != B2) = false := by simp
    clear HX5 HX6 KT1 KT2 HG5 HGo
    have key : ∀ W, Old w6 W → (decide (K2 ≥ x + z) = true ∨ B2 = false) → True := fun _ _ _ => trivial
    clear key
    go_wp2_with fail
    go_loopw [118] (fun i W => ∃ j : Nat, j ≤ ts.length ∧ i = .int .i64 j ∧ W = w6) (fun i _ => ts.length - (intOf i).toNat)
    case atStart => exact ⟨0, by omega, rfl, rfl⟩
    case round =>
      obtain ⟨j, hj, rfl, hwr⟩ := hrel
      obtain rfl := hwr.symm
      by_cases hlt : j < ts.length
      · have dl : decide ((j : Int) < (ts.length : Int)) = true := by simp; omega
        obtain ⟨b, o, rfl, hc⟩ : ∃ b o, a5 = some ⟨b, o, none⟩ ∧ w6.cell? ⟨b, o + j, none⟩ = some (.int .i64 (ts.getD j 0)) := by
          rcases HR6.out with ⟨a', cap', e, e2⟩ | ⟨b, o, cap', e, hb, h0, hc⟩
          · rw [e2] at hlt; simp at hlt
          · injection e with e1
            exact ⟨b, o, e1, hc j hlt⟩
        have hx := HTI.out (ts.getD j 0) (by simp [List.getD, hlt])
        obtain ⟨x1, x2⟩ := hx
        have d1 : decide (ts.getD j 0 < -1) = false := decide_eq_false (by omega)
        have d2 : decide (1 < ts.getD j 0) = false := decide_eq_false (by omega)
        generalize ts.getD j 0 = X at *
        go_wp2_with fail
        exact ⟨⟨j + 1, by omega, by go_num, by trivial⟩, by simp [intOf]; omega⟩
      · have dl : decide ((j : Int) < (ts.length : Int)) = false := by simp; omega
        cases hB2 : B2
        · subst hB2
          go_wp2_with fail
          go_ret
          exact ⟨rfl, Old.trans HG1.out HG6.out⟩
        · have hk := HTK.out hB2
          subst hB2
          have d5 : decide (x + z ≤ K2) = true := decide_eq_true hk
          go_wp2_with fail
          go_ret
          exact ⟨rfl, Old.trans HG1.out HG6.out⟩
  · have hS := HS.out hB
    have HSJ : Hid (∀ j : Nat, j < zs.length → nFrom xs (x + j) y = some (zs.getD j 0, (x + j).toNat + 1) ∧ (x + j).toNat = x + j ∧ -y ≤ zs.getD j 0 ∧ zs.getD j 0 ≤ y) := hS.1
    have HSK : Hid (x + zs.length = K) := hS.2
    subst hB
    clear hS HS
    go_wp2_with fail
    go_loopw [13, 62] (fun k i W => ∃ j : Nat, j ≤ zs.length ∧ i = .int .i64 j ∧ k = .int .i64 (x + j) ∧ Hid (Old w3 W)) (fun _ i _ => zs.length - (intOf i).toNat)
    case atStart => exact ⟨0, by omega, rfl, by simp, Old.refl _⟩
    case round =>
      obtain ⟨j, hj, rfl, rfl, HGr⟩ := hrel
      by_cases hlt : j < zs.length
      · have dl : decide ((j : Int) < (zs.length : Int)) = true := by simp; omega
        obtain ⟨b, o, rfl, hc⟩ : ∃ b o, a2 = some ⟨b, o, none⟩ ∧ wr.cell? ⟨b, o + j, none⟩ = some (.int .i64 (zs.getD j 0)) := by
          rcases HR3.out.old HGr.out with ⟨a', cap', e, e2⟩ | ⟨b, o, cap', e, hb, h0, hc⟩
          · rw [e2] at hlt; simp at hlt
          · injection e with e1
            exact ⟨b, o, e1, hc j hlt⟩
        obtain ⟨f1, f2, f3, f4⟩ := HSJ.out j hlt
        have KF : Hid (Calls Try.prog 18 #[.slice a xs.length cp, .int .i64 (x + j), .int .i64 y] wr fun e w' => e = .returned (.tuple #[.int .i64 (zs.getD j 0), .int .i64 (x + j + 1), .bool true]) ∧ Old wr w') := by
          refine (impl_NoiseFrom xs _ (x + j) y wr ((Own.row HO1.out).old (Old.trans HG3.out HGr.out)) (own_fit HO1.out) (by omega)).mono ?_
          rintro e w' ⟨e1, e2⟩
          rw [f1] at e1
          refine ⟨e1.trans ?_, e2⟩
          show Ending.returned (.tuple #[.int .i64 (zs.getD j 0), .int .i64 (((x + j).toNat + 1 : Nat) : Int), .bool true]) = _
          rw [show (((x + j).toNat + 1 : Nat) : Int) = x + j + 1 by omega]
        have d1 : (zs.getD j 0 != zs.getD j 0) = false := by simp
        have d2 : decide (zs.getD j 0 < -y) = false := decide_eq_false (by omega)
        have d3 : decide (y < zs.getD j 0) = false := decide_eq_false (by omega)
        clear f1 f2
        generalize zs.getD j 0 = X at *
        go_wp2_with fail
        refine KF.out.mono ?_
        rintro e w4 ⟨rfl, g4⟩
        have HG4 : Hid (Old w3 w4) := Old.trans HGr.out g4
        clear g4 KF
        go_wp2_with fail
        exact ⟨⟨j + 1, by omega, by go_num, by go_num, HG4⟩, by simp [intOf]; omega⟩
      · have dl : decide ((j : Int) < (zs.length : Int)) = false := by simp; omega
        obtain rfl : j = zs.length := by omega
        rw [HSK.out]
        have dK : (K != K) = false := by simp
        have HGo : Hid (Old w1 wr) := Old.trans HG3.out HGr.out
        -- the ternary row
        have KT1 : Hid (∀ W, Old w1 W → Calls Try.prog 19 #[.slice a xs.length cp, .int .i64 x, .int .i64 z] W fun e w' => ∃ v', e = .returned (.tuple #[v', .int .i64 K2, .bool B2]) ∧ Hid (Old W w' ∧ Own w' W.heap.size v' ts)) := fun W g => (impl_TernaryRow xs _ x z W ((Own.row HO1.out).old g) (own_fit HO1.out) (by omega)).mono fun e w' ⟨v', e1, e2⟩ => ⟨v', by rw [e1, ← HT.out.1, ← HT.out.2.1], by rw [← HT.out.2.2]; exact e2⟩
        have KT2 : Hid (∀ W, Old w1 W → Calls Try.prog 20 #[.slice a xs.length cp, .int .i64 x, .int .i64 z] W fun e w' => ∃ v', e = .returned (.tuple #[v', .int .i64 K2, .bool B2]) ∧ Hid (Old W w' ∧ Own w' W.heap.size v' ts)) := fun W g => (spec_TernaryRow xs _ x z W ((Own.row HO1.out).old g) (by omega)).mono fun e w' ⟨v', e1, e2⟩ => ⟨v', by rw [e1, ← HT.out.1, ← HT.out.2.1], by rw [← HT.out.2.2]; exact e2⟩
        go_wp2_with fail
        refine (KT1.out _ HGo.out).mono ?_
        rintro e w5 ⟨v5, rfl, HX5⟩
        obtain ⟨a5, c5, rfl⟩ := (Own.row HX5.out.2).slice
        have HG5 : Hid (Old w1 w5) := Old.trans HGo.out HX5.out.1
        go_wp2_with fail
        refine (KT2.out _ HG5.out).mono ?_
        rintro e w6 ⟨v6, rfl, HX6⟩
        obtain ⟨a6, c6, rfl⟩ := (Own.row HX6.out.2).slice
        have HG6 : Hid (Old w1 w6) := Old.trans HG5.out HX6.out.1
        have HR6 : Hid (Row w6 (.slice a5 ts.length c5) ts) := (Own.row HX5.out.2).old HX6.out.1
        have dB : (B2 != B2) = false := by simp
        clear HX5 HX6 KT1 KT2 HG5 HGo
        have key : ∀ W, Old w6 W → (decide (K2 ≥ x + z) = true ∨ B2 = false) → True := fun _ _ _ => trivial
        clear key
        go_wp2_with fail
        go_loopw [118] (fun i W => ∃ j : Nat, j ≤ ts.length ∧ i = .int .i64 j ∧ W = w6) (fun i _ => ts.length - (intOf i).toNat)
        case atStart => exact ⟨0, by omega, rfl, rfl⟩
        case round =>
          obtain ⟨j, hj, rfl, hwr⟩ := hrel
          obtain rfl := hwr.symm
          by_cases hlt : j < ts.length
          · have dl : decide ((j : Int) < (ts.length : Int)) = true := by simp; omega
            obtain ⟨b, o, rfl, hc⟩ : ∃ b o, a5 = some ⟨b, o, none⟩ ∧ w6.cell? ⟨b, o + j, none⟩ = some (.int .i64 (ts.getD j 0)) := by
              rcases HR6.out with ⟨a', cap', e, e2⟩ | ⟨b, o, cap', e, hb, h0, hc⟩
              · rw [e2] at hlt; simp at hlt
              · injection e with e1
                exact ⟨b, o, e1, hc j hlt⟩
            have hx := HTI.out (ts.getD j 0) (by simp [List.getD, hlt])
            obtain ⟨x1, x2⟩ := hx
            have d1 : decide (ts.getD j 0 < -1) = false := decide_eq_false (by omega)
            have d2 : decide (1 < ts.getD j 0) = false := decide_eq_false (by omega)
            generalize ts.getD j 0 = X at *
            go_wp2_with fail
            exact ⟨⟨j + 1, by omega, by go_num, by trivial⟩, by simp [intOf]; omega⟩
          · have dl : decide ((j : Int) < (ts.length : Int)) = false := by simp; omega
            cases hB2 : B2
            · subst hB2
              go_wp2_with fail
              go_ret
              exact ⟨rfl, Old.trans HG1.out HG6.out⟩
            · have hk := HTK.out hB2
              subst hB2
              have d5 : decide (x + z ≤ K2) = true := decide_eq_true hk
              go_wp2_with fail
              go_ret
              exact ⟨rfl, Old.trans HG1.out HG6.out⟩
end Go.Proofs.Ytonbimgdkafnjaa
