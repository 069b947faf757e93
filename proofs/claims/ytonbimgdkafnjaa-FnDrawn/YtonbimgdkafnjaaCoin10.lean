/- Proved: contracts of the model's six functions of chapter 7. -/
import Derived.Test.YtonbimgdkafnjaaCoin9
namespace Go.Proofs.Ytonbimgdkafnjaa
open Go.ChangeShapes Go.WideShapes Go.ChangeAt Go.RowKit
set_option linter.unusedVariables false
set_option linter.unusedSimpArgs false
theorem l7Noise_any (b : Int) (w : World) : Calls Try.prog 57 #[.int .i64 b] w fun e w' => e = .returned (.bool (inQ b 1 16)) ∧ w' = w := by
  have K1 := fun W => in_any b 1 16 W
  generalize inQ b 1 16 = r at *
  go_enter Try.func57, Try.ntmps57
  go_wp2_with fail
  refine (K1 _).mono ?_
  rintro e w' ⟨rfl, rfl⟩
  go_wp2_with fail
  go_ret
  exact ⟨rfl, rfl⟩
theorem ternary_dm (ws : List Int) (q : Nat) (v : Value) (hw : wdB ws = true) (hl : ws.length ≤ 4000) (k : Nat) (W : World) (h : Sp W q v ws k true) :
    Calls Try.prog 93 #[.pointer (some ⟨q, 0, none⟩)] W fun e w' => DrM (tD ws) ws W q v k e w' := by
  have K1 : Hid (Calls Try.prog 108 #[.pointer (some ⟨q, 0, none⟩), .int .i64 3] W fun e w' => DrM (uD ws 3) ws W q v k e w') := uniform_dm ws q 3 v hw hl (by omega) k W h
  clear h hw
  go_enter Try.func93, Try.ntmps93
  go_wp2_with fail
  refine K1.out.mono ?_
  rintro e w1 ⟨g, ⟨x, k', h1, rfl, h3⟩ | ⟨h1, ⟨y, rfl⟩, k', h3⟩⟩
  · have HF : Hid (DrM (tD ws) ws W q v k (.returned (.int .i64 (tern x))) w1) := ⟨g, Or.inl ⟨tern x, k', by unfold tD; rw [h1], rfl, h3⟩⟩
    clear g h1 h3
    by_cases hx : x = 2
    · subst hx
      go_wp2_with fail
      go_ret
      exact HF.out
    · have d1 : (x == 2) = false := by simp [hx]
      have e1 : tern x = x := by simp [tern, hx]
      rw [e1] at HF
      go_wp2_with fail
      go_ret
      exact HF.out
  · have HF : Hid (∀ z, DrM (tD ws) ws W q v k (.returned (.int .i64 z)) w1) := fun z => ⟨g, Or.inr ⟨by unfold tD; rw [h1], ⟨z, rfl⟩, k', h3⟩⟩
    clear g h1 h3
    by_cases hx : y = 2
    · subst hx
      go_wp2_with fail
      go_ret
      exact HF.out _
    · have d1 : (y == 2) = false := by simp [hx]
      go_wp2_with fail
      go_ret
      exact HF.out _
theorem outRow_yes (ws : List Int) (q k m c : Nat) (a : Option Addr) (v : Value) (w : World) (h : Sp w q v ws k true) :
    Calls Try.prog 59 #[.pointer (some ⟨q, 0, none⟩), .slice a m c] w fun e w' => e = .returned (.tuple #[.slice a m c, .int .i64 (k : Int), .bool true]) ∧ Old w w' := by
  have c1 := h.c1
  have c2 := h.c2
  clear h
  go_enter Try.func59, Try.ntmps59
  go_wp2_with fail
  go_quiet (fail)
  go_wp2_with fail
  go_ret3
  exact ⟨rfl, (Old.refl w).drewN _⟩
theorem outRow_no (ws : List Int) (q k m c : Nat) (a : Option Addr) (v : Value) (w : World) (h : Sp w q v ws k false) :
    Calls Try.prog 59 #[.pointer (some ⟨q, 0, none⟩), .slice a m c] w fun e w' => e = .returned (.tuple #[.slice none 0 0, .int .i64 0, .bool false]) ∧ Old w w' := by
  have c2 := h.c2
  clear h
  go_enter Try.func59, Try.ntmps59
  go_wp2_with fail
  go_ret3
  exact ⟨rfl, Old.refl w⟩
theorem out_yes (ws : List Int) (q k : Nat) (x : Int) (v : Value) (w : World) (h : Sp w q v ws k true) :
    Calls Try.prog 71 #[.pointer (some ⟨q, 0, none⟩), .int .i64 x] w fun e w' => e = .returned (.tuple #[.int .i64 x, .int .i64 (k : Int), .bool true]) ∧ Old w w' := by
  have c1 := h.c1
  have c2 := h.c2
  clear h
  go_enter Try.func71, Try.ntmps71
  go_wp2_with fail
  go_quiet (fail)
  go_wp2_with fail
  go_ret3
  exact ⟨rfl, (Old.refl w).drewN _⟩
theorem out_no (ws : List Int) (q k : Nat) (x : Int) (v : Value) (w : World) (h : Sp w q v ws k false) :
    Calls Try.prog 71 #[.pointer (some ⟨q, 0, none⟩), .int .i64 x] w fun e w' => e = .returned (.tuple #[.int .i64 0, .int .i64 0, .bool false]) ∧ Old w w' := by
  have c2 := h.c2
  clear h
  go_enter Try.func71, Try.ntmps71
  go_wp2_with fail
  go_ret3
  exact ⟨rfl, Old.refl w⟩
theorem Sp.new {w : World} {v : Value} {ws : List Int} {k : Nat} (h : Row w v ws) (hk : k ≤ ws.length) : Sp (w.alloc (.cells #[v, .int .i64 (k : Int), .bool true] 83)) w.heap.size v ws k true := by
  refine ⟨hk, heap_alloc_new _ _, h.old ((Old.refl w).alloc _), fun b o cap e h0 => ?_⟩
  rcases h with ⟨a, c, e1, e2⟩ | ⟨b', o', c, e1, hb, _⟩
  · rw [e2] at h0; simp at h0
  · rw [e] at e1
    injection e1 with e3
    injection e3 with e4
    injection e4 with e5
    rw [e5]
    exact hb
theorem atB_yes {ws : List Int} {at_ : Int} (h : atB ws at_ = true) : wdB ws = true ∧ ws.length ≤ 4000 ∧ (0 ≤ at_ ∧ at_ ≤ ws.length) := by
  simp only [atB, wsB, inQ, Bool.and_eq_true, decide_eq_true_eq] at h
  exact ⟨h.1.2, h.1.1, h.2⟩
theorem l7Words_at (ws : List Int) (v : Value) (at_ : Int) (w : World) (h : Row w v ws) (hl : ws.length ≤ 9223372036854775807) :
    Calls Try.prog 56 #[v, .int .i64 at_] w fun e w' => e = .returned (.bool (atB ws at_)) ∧ w' = w := l7Words_any ws v at_ w h hl
theorem mayB_at (ws : List Int) (at_ n : Int) : mayB ws at_ n = (atB ws at_ && inQ n 0 64) := rfl
set_option maxRecDepth 100000 in
set_option maxHeartbeats 4000000 in
theorem spec_TernaryRow (ws : List Int) (v : Value) (at_ n : Int) (w : World) (h : Row w v ws) (hl : ws.length ≤ 9223372036854775807) :
    Calls Try.prog 20 #[v, .int .i64 at_, .int .i64 n] w fun e w' => RowAns (tRow ws at_ n) w e w' := by
  have K0 := fun W (e : W = w) => (by subst e; exact l7Words_at ws v at_ _ h hl : Calls Try.prog 56 #[v, .int .i64 at_] W fun e w' => e = .returned (.bool (atB ws at_)) ∧ w' = W)
  have K1 := fun W => in_any n 0 64 W
  obtain ⟨a, cap, ha⟩ := h.slice
  cases h0 : atB ws at_
  · rw [h0] at K0
    have HA : Hid (tRow ws at_ n = none) := by show _ = none; simp [tRow, mayB_at, h0]
    subst ha
    clear h h0
    go_enter Try.func20, Try.ntmps20
    go_wp2_with fail
    refine (K0 _ rfl).mono ?_
    rintro e w' ⟨rfl, hw⟩
    obtain rfl := hw.symm
    go_wp2_with fail
    go_ret3
    rw [HA.out]
    exact rowAns_nil _
  rw [h0] at K0
  cases h1 : inQ n 0 64
  · rw [h1] at K1
    have HA : Hid (tRow ws at_ n = none) := by show _ = none; simp [tRow, mayB_at, h0, h1]
    subst ha
    clear h h0 h1
    go_enter Try.func20, Try.ntmps20
    go_wp2_with fail
    refine (K0 _ rfl).mono ?_
    rintro e w' ⟨rfl, hw⟩
    obtain rfl := hw.symm
    go_wp2_with fail
    refine (K1 _).mono ?_
    rintro e w' ⟨rfl, hw⟩
    obtain rfl := hw.symm
    go_wp2_with fail
    go_ret3
    rw [HA.out]
    exact rowAns_nil _
  rw [h1] at K1
  have HA : Hid (tRow ws at_ n = drP (tD ws) at_.toNat n.toNat) := by show _ = _; simp [tRow, mayB_at, h0, h1]
  obtain ⟨q1, q2, q3, q4⟩ := atB_yes h0
  obtain ⟨A, rfl⟩ := Int.eq_ofNat_of_zero_le q3
  have q78 : 0 ≤ n ∧ n ≤ 64 := by simpa [inQ] using h1
  obtain ⟨q7, q8⟩ := q78
  obtain ⟨N, rfl⟩ := Int.eq_ofNat_of_zero_le q7
  have HS : Hid (Sp (w.alloc (.cells #[v, .int .i64 (A : Int), .bool true] 83)) w.heap.size v ws A true) := Sp.new h (by omega)
  have KD : Hid (∀ q W, Sp W q v ws A true → Calls Try.prog 64 #[.pointer (some ⟨q, 0, none⟩), .int .i64 (N : Int)] W fun e w' => RwM (drP (tD ws) A N) ws W q v e w') := fun q W hs => ternaries_m (tD ws) ws q A N v W (by omega) hs (ternary_dm ws q v q1 q2 )
  subst ha
  clear h hl q1 q2 q3 q4 q7 q8 h0 h1
  go_enter Try.func20, Try.ntmps20
  go_wp2_with fail
  refine (K0 _ rfl).mono ?_
  rintro e w' ⟨rfl, hw⟩
  obtain rfl := hw.symm
  go_wp2_with fail
  refine (K1 _).mono ?_
  rintro e w' ⟨rfl, hw⟩
  obtain rfl := hw.symm
  go_wp2_with fail
  refine (KD.out _ _ HS.out).mono ?_
  rintro e w2 ⟨g, ⟨l, k, v', h1, rfl, o, s2⟩ | ⟨h1, ⟨b1, m, c, rfl⟩, k, s2⟩⟩
  · obtain ⟨a2, c2, rfl⟩ := (Own.row o).slice
    have HO : Hid (Own w2 w.heap.size (.slice a2 l.length c2) l) := o.low ((Old.refl w).alloc _).size
    have HG : Hid (Old w w2) := ((Old.refl w).alloc _).chg g (Nat.le_refl _)
    have HR : Hid (drP (tD ws) A N = some (l, k)) := h1
    have HQ : Hid (Sp w2 w.heap.size (.slice a ws.length cap) ws k true) := s2
    clear g h1 o s2
    go_wp2_with fail
    refine (outRow_yes ws _ k _ _ _ _ _ HQ.out).mono ?_
    rintro e w3 ⟨rfl, g3⟩
    have HG3 : Hid (Old w w3) := Old.trans HG.out g3
    have HO3 : Hid (Own w3 w.heap.size (.slice a2 l.length c2) l) := HO.out.old g3
    clear g3
    go_wp2_with fail
    go_ret3
    rw [HA.out]
    unfold RowAns
    show ∃ v', _ = Ending.returned (.tuple #[v', .int .i64 (aK (drP (tD ws) A N)), .bool (drP (tD ws) A N).isSome]) ∧ Old w w3 ∧ Own w3 w.heap.size v' (aL (drP (tD ws) A N))
    rw [HR.out]
    exact ⟨_, rfl, HG3.out, HO3.out⟩
  · have HG : Hid (Old w w2) := ((Old.refl w).alloc _).chg g (Nat.le_refl _)
    have HR : Hid (drP (tD ws) A N = none) := h1
    have HQ : Hid (Sp w2 w.heap.size (.slice a ws.length cap) ws k false) := s2
    clear g h1 s2
    go_wp2_with fail
    refine (outRow_no ws _ k _ _ _ _ _ HQ.out).mono ?_
    rintro e w3 ⟨rfl, g3⟩
    have HG3 : Hid (Old w w3) := Old.trans HG.out g3
    clear g3
    go_wp2_with fail
    go_ret3
    rw [HA.out]
    unfold RowAns
    show ∃ v', _ = Ending.returned (.tuple #[v', .int .i64 (aK (drP (tD ws) A N)), .bool (drP (tD ws) A N).isSome]) ∧ Old w w3 ∧ Own w3 w.heap.size v' (aL (drP (tD ws) A N))
    rw [HR.out]
    exact ⟨_, rfl, HG3.out, rfl, .inl ⟨rfl, rfl⟩⟩
set_option maxRecDepth 100000 in
set_option maxHeartbeats 4000000 in
theorem spec_NoiseRow (ws : List Int) (v : Value) (at_ b n : Int) (w : World) (h : Row w v ws) (hl : ws.length ≤ 9223372036854775807) :
    Calls Try.prog 17 #[v, .int .i64 at_, .int .i64 b, .int .i64 n] w fun e w' => RowAns (nRow ws at_ b n) w e w' := by
  have K0 := fun W (e : W = w) => (by subst e; exact l7Words_at ws v at_ _ h hl : Calls Try.prog 56 #[v, .int .i64 at_] W fun e w' => e = .returned (.bool (atB ws at_)) ∧ w' = W)
  have K1 := fun W => l7Noise_any b W
  have K2 := fun W => in_any n 0 64 W
  obtain ⟨a, cap, ha⟩ := h.slice
  cases h0 : atB ws at_
  · rw [h0] at K0
    have HA : Hid (nRow ws at_ b n = none) := by show _ = none; simp [nRow, mayB_at, h0]
    subst ha
    clear h h0
    go_enter Try.func17, Try.ntmps17
    go_wp2_with fail
    refine (K0 _ rfl).mono ?_
    rintro e w' ⟨rfl, hw⟩
    obtain rfl := hw.symm
    go_wp2_with fail
    go_ret3
    rw [HA.out]
    exact rowAns_nil _
  rw [h0] at K0
  cases h1 : inQ b 1 16
  · rw [h1] at K1
    have HA : Hid (nRow ws at_ b n = none) := by show _ = none; simp [nRow, mayB_at, h0, h1]
    subst ha
    clear h h0 h1
    go_enter Try.func17, Try.ntmps17
    go_wp2_with fail
    refine (K0 _ rfl).mono ?_
    rintro e w' ⟨rfl, hw⟩
    obtain rfl := hw.symm
    go_wp2_with fail
    refine (K1 _).mono ?_
    rintro e w' ⟨rfl, hw⟩
    obtain rfl := hw.symm
    go_wp2_with fail
    go_ret3
    rw [HA.out]
    exact rowAns_nil _
  rw [h1] at K1
  cases h2 : inQ n 0 64
  · rw [h2] at K2
    have HA : Hid (nRow ws at_ b n = none) := by show _ = none; simp [nRow, mayB_at, h0, h1, h2]
    subst ha
    clear h h0 h1 h2
    go_enter Try.func17, Try.ntmps17
    go_wp2_with fail
    refine (K0 _ rfl).mono ?_
    rintro e w' ⟨rfl, hw⟩
    obtain rfl := hw.symm
    go_wp2_with fail
    refine (K1 _).mono ?_
    rintro e w' ⟨rfl, hw⟩
    obtain rfl := hw.symm
    go_wp2_with fail
    refine (K2 _).mono ?_
    rintro e w' ⟨rfl, hw⟩
    obtain rfl := hw.symm
    go_wp2_with fail
    go_ret3
    rw [HA.out]
    exact rowAns_nil _
  rw [h2] at K2
  have HA : Hid (nRow ws at_ b n = drP (nD ws b.toNat) at_.toNat n.toNat) := by show _ = _; simp [nRow, mayB_at, h0, h1, h2]
  obtain ⟨q1, q2, q3, q4⟩ := atB_yes h0
  obtain ⟨A, rfl⟩ := Int.eq_ofNat_of_zero_le q3
  have q56 : 1 ≤ b ∧ b ≤ 16 := by simpa [inQ] using h1
  obtain ⟨q5, q6⟩ := q56
  obtain ⟨B, rfl⟩ := Int.eq_ofNat_of_zero_le (show 0 ≤ b by omega)
  have q78 : 0 ≤ n ∧ n ≤ 64 := by simpa [inQ] using h2
  obtain ⟨q7, q8⟩ := q78
  obtain ⟨N, rfl⟩ := Int.eq_ofNat_of_zero_le q7
  have HS : Hid (Sp (w.alloc (.cells #[v, .int .i64 (A : Int), .bool true] 83)) w.heap.size v ws A true) := Sp.new h (by omega)
  have KD : Hid (∀ q W, Sp W q v ws A true → Calls Try.prog 60 #[.pointer (some ⟨q, 0, none⟩), .int .i64 (B : Int), .int .i64 (N : Int)] W fun e w' => RwM (drP (nD ws B) A N) ws W q v e w') := fun q W hs => noises_m (nD ws B) ws q A N B v W (by omega) hs (noise_dm ws q B v q1 q2 (by omega) )
  subst ha
  clear h hl q1 q2 q3 q4 q5 q6 q7 q8 h0 h1 h2
  go_enter Try.func17, Try.ntmps17
  go_wp2_with fail
  refine (K0 _ rfl).mono ?_
  rintro e w' ⟨rfl, hw⟩
  obtain rfl := hw.symm
  go_wp2_with fail
  refine (K1 _).mono ?_
  rintro e w' ⟨rfl, hw⟩
  obtain rfl := hw.symm
  go_wp2_with fail
  refine (K2 _).mono ?_
  rintro e w' ⟨rfl, hw⟩
  obtain rfl := hw.symm
  go_wp2_with fail
  refine (KD.out _ _ HS.out).mono ?_
  rintro e w2 ⟨g, ⟨l, k, v', h1, rfl, o, s2⟩ | ⟨h1, ⟨b1, m, c, rfl⟩, k, s2⟩⟩
  · obtain ⟨a2, c2, rfl⟩ := (Own.row o).slice
    have HO : Hid (Own w2 w.heap.size (.slice a2 l.length c2) l) := o.low ((Old.refl w).alloc _).size
    have HG : Hid (Old w w2) := ((Old.refl w).alloc _).chg g (Nat.le_refl _)
    have HR : Hid (drP (nD ws B) A N = some (l, k)) := h1
    have HQ : Hid (Sp w2 w.heap.size (.slice a ws.length cap) ws k true) := s2
    clear g h1 o s2
    go_wp2_with fail
    refine (outRow_yes ws _ k _ _ _ _ _ HQ.out).mono ?_
    rintro e w3 ⟨rfl, g3⟩
    have HG3 : Hid (Old w w3) := Old.trans HG.out g3
    have HO3 : Hid (Own w3 w.heap.size (.slice a2 l.length c2) l) := HO.out.old g3
    clear g3
    go_wp2_with fail
    go_ret3
    rw [HA.out]
    unfold RowAns
    show ∃ v', _ = Ending.returned (.tuple #[v', .int .i64 (aK (drP (nD ws B) A N)), .bool (drP (nD ws B) A N).isSome]) ∧ Old w w3 ∧ Own w3 w.heap.size v' (aL (drP (nD ws B) A N))
    rw [HR.out]
    exact ⟨_, rfl, HG3.out, HO3.out⟩
  · have HG : Hid (Old w w2) := ((Old.refl w).alloc _).chg g (Nat.le_refl _)
    have HR : Hid (drP (nD ws B) A N = none) := h1
    have HQ : Hid (Sp w2 w.heap.size (.slice a ws.length cap) ws k false) := s2
    clear g h1 s2
    go_wp2_with fail
    refine (outRow_no ws _ k _ _ _ _ _ HQ.out).mono ?_
    rintro e w3 ⟨rfl, g3⟩
    have HG3 : Hid (Old w w3) := Old.trans HG.out g3
    clear g3
    go_wp2_with fail
    go_ret3
    rw [HA.out]
    unfold RowAns
    show ∃ v', _ = Ending.returned (.tuple #[v', .int .i64 (aK (drP (nD ws B) A N)), .bool (drP (nD ws B) A N).isSome]) ∧ Old w w3 ∧ Own w3 w.heap.size v' (aL (drP (nD ws B) A N))
    rw [HR.out]
    exact ⟨_, rfl, HG3.out, rfl, .inl ⟨rfl, rfl⟩⟩
set_option maxRecDepth 100000 in
set_option maxHeartbeats 4000000 in
theorem spec_NoiseFrom (ws : List Int) (v : Value) (at_ b : Int) (w : World) (h : Row w v ws) (hl : ws.length ≤ 9223372036854775807) :
    Calls Try.prog 26 #[v, .int .i64 at_, .int .i64 b] w fun e w' => FromAns (nFrom ws at_ b) w e w' := by
  have K0 := fun W (e : W = w) => (by subst e; exact l7Words_at ws v at_ _ h hl : Calls Try.prog 56 #[v, .int .i64 at_] W fun e w' => e = .returned (.bool (atB ws at_)) ∧ w' = W)
  have K1 := fun W => l7Noise_any b W
  obtain ⟨a, cap, ha⟩ := h.slice
  cases h0 : atB ws at_
  · rw [h0] at K0
    have HA : Hid (nFrom ws at_ b = none) := by show _ = none; simp [nFrom, h0]
    subst ha
    clear h h0
    go_enter Try.func26, Try.ntmps26
    go_wp2_with fail
    refine (K0 _ rfl).mono ?_
    rintro e w' ⟨rfl, hw⟩
    obtain rfl := hw.symm
    go_wp2_with fail
    go_ret3
    rw [HA.out]
    exact ⟨rfl, Old.refl _⟩
  rw [h0] at K0
  cases h1 : inQ b 1 16
  · rw [h1] at K1
    have HA : Hid (nFrom ws at_ b = none) := by show _ = none; simp [nFrom, h0, h1]
    subst ha
    clear h h0 h1
    go_enter Try.func26, Try.ntmps26
    go_wp2_with fail
    refine (K0 _ rfl).mono ?_
    rintro e w' ⟨rfl, hw⟩
    obtain rfl := hw.symm
    go_wp2_with fail
    refine (K1 _).mono ?_
    rintro e w' ⟨rfl, hw⟩
    obtain rfl := hw.symm
    go_wp2_with fail
    go_ret3
    rw [HA.out]
    exact ⟨rfl, Old.refl _⟩
  rw [h1] at K1
  have HA : Hid (nFrom ws at_ b = nD ws b.toNat at_.toNat) := by show _ = _; simp [nFrom, h0, h1]
  obtain ⟨q1, q2, q3, q4⟩ := atB_yes h0
  obtain ⟨A, rfl⟩ := Int.eq_ofNat_of_zero_le q3
  have q56 : 1 ≤ b ∧ b ≤ 16 := by simpa [inQ] using h1
  obtain ⟨q5, q6⟩ := q56
  obtain ⟨B, rfl⟩ := Int.eq_ofNat_of_zero_le (show 0 ≤ b by omega)
  have HS : Hid (Sp (w.alloc (.cells #[v, .int .i64 (A : Int), .bool true] 83)) w.heap.size v ws A true) := Sp.new h (by omega)
  have KD : Hid (∀ q W, Sp W q v ws A true → Calls Try.prog 72 #[.pointer (some ⟨q, 0, none⟩), .int .i64 (B : Int)] W fun e w' => DrM (nD ws B) ws W q v A e w') := fun q W hs => noise_dm ws q B v q1 q2 (by omega) A W hs
  subst ha
  clear h hl q1 q2 q3 q4 q5 q6 h0 h1
  go_enter Try.func26, Try.ntmps26
  go_wp2_with fail
  refine (K0 _ rfl).mono ?_
  rintro e w' ⟨rfl, hw⟩
  obtain rfl := hw.symm
  go_wp2_with fail
  refine (K1 _).mono ?_
  rintro e w' ⟨rfl, hw⟩
  obtain rfl := hw.symm
  go_wp2_with fail
  refine (KD.out _ _ HS.out).mono ?_
  rintro e w2 ⟨g, ⟨x, k, h1, rfl, s2⟩ | ⟨h1, ⟨x, rfl⟩, k, s2⟩⟩
  · have HG : Hid (Old w w2) := ((Old.refl w).alloc _).chg g (Nat.le_refl _)
    have HR : Hid (nD ws B A = some (x, k)) := h1
    have HQ : Hid (Sp w2 w.heap.size (.slice a ws.length cap) ws k true) := s2
    clear g h1 s2
    go_wp2_with fail
    refine (out_yes ws _ k _ _ _ HQ.out).mono ?_
    rintro e w3 ⟨rfl, g3⟩
    have HG3 : Hid (Old w w3) := Old.trans HG.out g3
    clear g3
    go_wp2_with fail
    go_ret3
    rw [HA.out]
    unfold FromAns
    show _ = Ending.returned (.tuple #[.int .i64 (fX (nD ws B A)), .int .i64 (fK (nD ws B A)), .bool (nD ws B A).isSome]) ∧ Old w w3
    rw [HR.out]
    exact ⟨rfl, HG3.out⟩
  · have HG : Hid (Old w w2) := ((Old.refl w).alloc _).chg g (Nat.le_refl _)
    have HR : Hid (nD ws B A = none) := h1
    have HQ : Hid (Sp w2 w.heap.size (.slice a ws.length cap) ws k false) := s2
    clear g h1 s2
    go_wp2_with fail
    refine (out_no ws _ k _ _ _ HQ.out).mono ?_
    rintro e w3 ⟨rfl, g3⟩
    have HG3 : Hid (Old w w3) := Old.trans HG.out g3
    clear g3
    go_wp2_with fail
    go_ret3
    rw [HA.out]
    unfold FromAns
    show _ = Ending.returned (.tuple #[.int .i64 (fX (nD ws B A)), .int .i64 (fK (nD ws B A)), .bool (nD ws B A).isSome]) ∧ Old w w3
    rw [HR.out]
    exact ⟨rfl, HG3.out⟩
end Go.Proofs.Ytonbimgdkafnjaa
