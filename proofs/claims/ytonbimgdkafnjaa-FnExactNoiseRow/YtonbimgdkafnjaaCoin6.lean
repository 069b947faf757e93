/- Proved: contracts of the model's rows of draws (uniforms, ternaries, noises): what so many draws one behind the other leave. -/
import Derived.Test.YtonbimgdkafnjaaCoin5
namespace Go.Proofs.Ytonbimgdkafnjaa
open Go.ChangeShapes Go.WideShapes Go.ChangeAt Go.RowKit
set_option linter.unusedVariables false
set_option linter.unusedSimpArgs false
/-- so many draws one behind the other: the numbers, and where they end; none where one of them lacks words -/
def drP (D : Nat → Option (Int × Nat)) (k0 : Nat) : Nat → Option (List Int × Nat)
  | 0 => some ([], k0)
  | n + 1 => match drP D k0 n with
    | none => none
    | some (l, k) => match D k with
      | none => none
      | some (x, k') => some (l ++ [x], k')
theorem drP_succ {D : Nat → Option (Int × Nat)} {k0 n k k' : Nat} {l : List Int} {x : Int} (h : drP D k0 n = some (l, k)) (hd : D k = some (x, k')) : drP D k0 (n + 1) = some (l ++ [x], k') := by
  simp [drP, h, hd]
theorem drP_dry {D : Nat → Option (Int × Nat)} {k0 n k : Nat} {l : List Int} (h : drP D k0 n = some (l, k)) (hd : D k = none) : drP D k0 (n + 1) = none := by
  simp [drP, h, hd]
theorem drP_none {D : Nat → Option (Int × Nat)} {k0 j : Nat} (h : drP D k0 j = none) : ∀ m, drP D k0 (j + m) = none
  | 0 => h
  | m + 1 => by
    show drP D k0 (j + m + 1) = none
    simp [drP, drP_none h m]
theorem drP_len {D : Nat → Option (Int × Nat)} {k0 : Nat} : ∀ n l k, drP D k0 n = some (l, k) → l.length = n
  | 0, l, k, h => by simp [drP] at h; rw [h.1]; rfl
  | n + 1, l, k, h => by
    simp only [drP] at h
    cases e : drP D k0 n with
    | none => rw [e] at h; simp at h
    | some p =>
      obtain ⟨l', k'⟩ := p
      rw [e] at h
      simp only at h
      cases e2 : D k' with
      | none => rw [e2] at h; simp at h
      | some p2 =>
        rw [e2] at h
        simp at h
        rw [← h.1, List.length_append, drP_len n l' k' e]
        rfl
theorem oneC (w : World) (x : Value) (t : TypeId) : ∀ j u, [x][j]? = some u → (w.alloc (.cells #[x] t)).cell? ((⟨w.heap.size, 0, none⟩ : Addr).add j) = some u := by
  intro j u h
  match j, h with
  | 0, h =>
    have : x = u := by simpa using h
    subst this
    exact cell_at w _ _ _ _ rfl
  | j + 1, h => simp at h
theorem oneO (x : Int) : ∀ u ∈ [Value.int .i64 x], u.oneCell' = true := by simp [Value.oneCell']
theorem Own.snocZ {w : World} {base : Nat} {v : Value} {xs : List Int} {y : Int} (h : w.ownsRow base 3 1 v (xs.length + 1) (xs.map (Value.int .i64) ++ [.int .i64 y])) : Own w base v (xs ++ [y]) := by
  unfold Own
  rw [List.length_append, List.map_append]
  exact h
theorem Chg.alloc {a b : World} {lo hi : Nat} (h : Chg a b lo hi) (o : Obj) : Chg a (b.alloc o) lo hi := h.trans (((Old.refl b).alloc o).toChg lo hi)
theorem Chg.refl (a : World) (lo hi : Nat) : Chg a a lo hi := (Old.refl a).toChg lo hi
theorem Chg.grown {a b c : World} {lo hi : Nat} {ob : Option Nat} (h : Chg a b lo hi) (g : b.grownBy c ob) (hk : ∀ k, ob = some k → a.heap.size ≤ k) : Chg a c lo hi :=
  ⟨g.os.trans h.os, g.tape.trans h.tape, g.output.trans h.output, Nat.le_trans h.size g.size, fun b hb ho => (g.block b (Nat.lt_of_lt_of_le hb h.size) (fun e => by have := hk b e.symm; omega)).trans (h.block b hb ho)⟩
theorem Sp.kept {w w' : World} {q k : Nat} {v : Value} {ws : List Int} {ok : Bool} (h : Sp w q v ws k ok) (hs : w.heap.size ≤ w'.heap.size) (hk : ∀ b, b ≤ q → w'.heap[b]? = w.heap[b]?) : Sp w' q v ws k ok := by
  obtain ⟨h1, h2, h3, h4⟩ := h
  refine ⟨h1, (hk q (Nat.le_refl _)).trans h2, ?_, h4⟩
  rcases h3 with h5 | ⟨b, o, cap, e, hb, h0, hc⟩
  · exact Or.inl h5
  · have := h4 b o cap e h0
    exact Or.inr ⟨b, o, cap, e, Nat.lt_of_lt_of_le hb hs, h0, fun i hi => (World.cell?_of_block (hk b (by omega))).trans (hc i hi)⟩
theorem Sp.alloc {w : World} {q k : Nat} {v : Value} {ws : List Int} {ok : Bool} (h : Sp w q v ws k ok) (o : Obj) : Sp (w.alloc o) q v ws k ok :=
  h.kept ((Old.refl w).alloc o).size (fun b hb => ((Old.refl w).alloc o).block b (Nat.lt_of_le_of_lt hb h.lt))
theorem Sp.grown {w w' : World} {q k : Nat} {v : Value} {ws : List Int} {ok : Bool} {ob : Option Nat} (h : Sp w q v ws k ok) (g : w.grownBy w' ob) (hk : ∀ j, ob = some j → q < j) : Sp w' q v ws k ok :=
  h.kept g.size (fun b hb => g.block b (Nat.lt_of_le_of_lt hb h.lt) (fun e => by have := hk b e.symm; omega))
/-- what one draw of the model's leaves -/
def DrM (D : Nat → Option (Int × Nat)) (ws : List Int) (w : World) (q : Nat) (v : Value) (k : Nat) (e : Ending) (w' : World) : Prop :=
  Chg w w' q (q + 1) ∧ ((∃ x k', D k = some (x, k') ∧ e = .returned (.int .i64 x) ∧ Sp w' q v ws k' true) ∨ (D k = none ∧ (∃ y, e = .returned (.int .i64 y)) ∧ ∃ k', Sp w' q v ws k' false))
/-- what a row of draws of the model's leaves -/
def RwM (R : Option (List Int × Nat)) (ws : List Int) (w : World) (q : Nat) (v : Value) (e : Ending) (w' : World) : Prop :=
  Chg w w' q (q + 1) ∧ ((∃ l k v', R = some (l, k) ∧ e = .returned v' ∧ Own w' w.heap.size v' l ∧ Sp w' q v ws k true) ∨ (R = none ∧ (∃ a m c, e = .returned (.slice a m c)) ∧ ∃ k, Sp w' q v ws k false))
/-- the loop's state -/
def LpM (D : Nat → Option (Int × Nat)) (ws : List Int) (w : World) (q : Nat) (v : Value) (k0 n0 : Nat) (lv nv : Value) (W : World) : Prop :=
  Chg w W q (q + 1) ∧ ∃ j, j ≤ n0 ∧ nv = .int .i64 ((n0 : Int) - j) ∧ ((∃ l k a c, drP D k0 j = some (l, k) ∧ lv = .slice a j c ∧ Own W w.heap.size (.slice a j c) l ∧ Sp W q v ws k true) ∨ (drP D k0 n0 = none ∧ (∃ a m c cs, lv = .slice a m c ∧ m ≤ n0 + 1 ∧ W.ownsRow w.heap.size 3 1 (.slice a m c) m cs) ∧ ∃ k, Sp W q v ws k false))
theorem own_slice {w : World} {base n : Nat} {v : Value} {cs : List Value} (h : w.ownsRow base 3 1 v n cs) : ∃ a c, v = .slice a n c := by
  rcases h.2 with ⟨h1, h2⟩ | ⟨g, cap, cur, h1, _⟩
  · exact ⟨none, 0, by rw [h1, h2]⟩
  · exact ⟨_, cap, h1⟩
theorem ownsRow_alloc {w : World} {base n : Nat} {v : Value} {cs : List Value} (h : w.ownsRow base 3 1 v n cs) (o : Obj) : (w.alloc o).ownsRow base 3 1 v n cs := by
  refine ⟨h.1, ?_⟩
  rcases h.2 with hn | ⟨p, cap, cur, rfl, hb, hgg, rest⟩
  · exact .inl hn
  · refine .inr ⟨p, cap, cur, rfl, hb, ?_, rest⟩
    rw [((Old.refl w).alloc o).block p (Array.getElem?_eq_some_iff.1 hgg).1]
    exact hgg
set_option maxRecDepth 100000 in
set_option maxHeartbeats 4000000 in
theorem ternaries_m (D : Nat → Option (Int × Nat)) (ws : List Int) (q k0 n0 : Nat) (v : Value) (w : World) (hn : n0 ≤ 64) (h : Sp w q v ws k0 true)
    (hD : ∀ k W, Sp W q v ws k true → Calls Try.prog 93 #[.pointer (some ⟨q, 0, none⟩)] W fun e w' => DrM D ws W q v k e w') :
    Calls Try.prog 64 #[.pointer (some ⟨q, 0, none⟩), .int .i64 n0] w fun e w' => RwM (drP D k0 n0) ws w q v e w' := by
  obtain ⟨i0, hi, hz0, hz1, hz2⟩ := info_parts Try.infoInt
  have HD : Hid (∀ k W, Sp W q v ws k true → Calls Try.prog 93 #[.pointer (some ⟨q, 0, none⟩)] W fun e w' => DrM D ws W q v k e w') := hD
  have HP : Hid (Sp w q v ws k0 true) := h
  have HQ : Hid (q < w.heap.size) := h.lt
  clear h hD
  go_enter Try.func64, Try.ntmps64
  go_wp2_with fail
  go_loopw [1, 5] (fun nv lv W => Hid (LpM D ws w q v k0 n0 lv nv W)) (fun nv _ _ => (intOf nv).toNat)
  case atStart => exact ⟨Chg.refl _ _ _, 0, by omega, by simp, Or.inl ⟨[], k0, none, 0, rfl, rfl, ⟨rfl, .inl ⟨rfl, rfl⟩⟩, HP.out⟩⟩
  case round =>
    obtain ⟨g, j, hj, rfl, ⟨l, k, a, c, hr, rfl, ho, hs⟩ | ⟨hr, ⟨a, m, c, cs, rfl, hm, ho⟩, k, hs⟩⟩ := hrel.out
    · have HG : Hid (Chg w wr q (q + 1)) := g
      have HR : Hid (drP D k0 j = some (l, k)) := hr
      have hl : l.length = j := drP_len j l k hr
      have HO : Hid (wr.ownsRow w.heap.size 3 1 (.slice a j c) j (l.map (Value.int .i64))) := by have := ho; unfold Own at this; rw [hl] at this; exact this
      have HS : Hid (Sp wr q v ws k true) := hs
      have c2 := hs.c2
      have HL : Hid (l.length = j) := hl
      clear hrel g hr ho hs hl
      by_cases hlt : j < n0
      · obtain ⟨d, hd⟩ : ∃ d, n0 = j + 1 + d := ⟨n0 - j - 1, by omega⟩
        have HDD : Hid (n0 = j + 1 + d) := hd
        have en : (n0 : Int) - (j : Int) = ((d + 1 : Nat) : Int) := by omega
        have ld : d ≤ 64 := by omega
        have lj : j ≤ 64 := by omega
        rw [en]
        have dl : decide ((0 : Int) < ((d + 1 : Nat) : Int)) = true := decide_eq_true (by omega)
        have es : ((d + 1 : Nat) : Int) - 1 = (d : Int) := by omega
        clear en hd hlt hj
        generalize d + 1 = d1 at *
        go_wp2_with fail
        refine (HD.out k wr HS.out).mono ?_
        rintro e w1 ⟨g1, t1⟩
        have HO1 : Hid (w1.ownsRow w.heap.size 3 1 (.slice a j c) j (l.map (Value.int .i64))) := by
          have hx : Own wr w.heap.size (.slice a j c) l := by unfold Own; rw [HL.out]; exact HO.out
          have := hx.chg g1 (fun p hp => Or.inr (by have := (hx.lt p hp).1; have := HQ.out; omega))
          unfold Own at this
          rw [HL.out] at this
          exact this
        have HG1 : Hid (Chg w w1 q (q + 1)) := HG.out.trans g1
        obtain ⟨x, rfl, HX⟩ : ∃ x, e = .returned (.int .i64 x) ∧ Hid ((∃ k', D k = some (x, k') ∧ Sp w1 q v ws k' true) ∨ (D k = none ∧ ∃ k', Sp w1 q v ws k' false)) := by
          rcases t1 with ⟨x, k', h1, h2, h3⟩ | ⟨h1, ⟨y, h2⟩, h3⟩
          · exact ⟨x, h2, Or.inl ⟨k', h1, h3⟩⟩
          · exact ⟨y, h2, Or.inr ⟨h1, h3⟩⟩
        have hz := HG1.out.size
        clear t1 g1 HS HO HG c2
        go_wp2_with (at_builtin; refine wpList_append_own _ rfl _ _ 23 rfl w.heap.size 3 i0 (.int .i64 0) 1 8 Try.underlying23 hi hz0 hz1 hz2 rfl (by decide) _ _ _ rfl (ownsRow_alloc HO1.out (.cells #[.int .i64 x] 3)) ⟨w1.heap.size, 0, none⟩ 1 1 [.int .i64 x] rfl rfl (oneC _ _ _) (oneO _) (by unfold maxLen; omega) (by omega) (by simp; omega) ?_; intro v5 w5 o5 g5 x5; obtain ⟨a5, c5, rfl⟩ := own_slice o5; have HO5 : Hid (w5.ownsRow w.heap.size 3 1 (.slice a5 (j + 1) c5) (j + 1) (l.map (Value.int .i64) ++ [.int .i64 x])) := o5; have HG5 : Hid (Chg w w5 q (q + 1)) := (HG1.out.alloc _).grown g5 (fun p hp => (HO1.out.lt p hp).1); have HX5 : Hid ((∃ k', D k = some (x, k') ∧ Sp w5 q v ws k' true) ∨ (D k = none ∧ ∃ k', Sp w5 q v ws k' false)) := (by
          have hq : ∀ p, (Value.slice a j c).ownBlock = some p → q < p := fun p hp => by have := (HO1.out.lt p hp).1; have := HQ.out; omega
          rcases HX.out with ⟨k', h1, h2⟩ | ⟨h1, k', h2⟩
          · exact Or.inl ⟨k', h1, (h2.alloc _).grown g5 hq⟩
          · exact Or.inr ⟨h1, k', (h2.alloc _).grown g5 hq⟩); clear o5 g5 x5)
        refine ⟨⟨HG5.out, j + 1, by have := HDD.out; omega, by have := HDD.out; congr 1; omega, ?_⟩, by simp [intOf]; omega⟩
        rcases HX5.out with ⟨k', h1, h2⟩ | ⟨h1, k', h2⟩
        · refine Or.inl ⟨l ++ [x], k', a5, c5, drP_succ HR.out h1, rfl, ?_, h2⟩
          have := HO5.out
          rw [← HL.out] at this
          have h7 := Own.snocZ this
          rw [HL.out] at h7
          exact h7
        · refine Or.inr ⟨?_, ⟨a5, j + 1, c5, _, rfl, by have := HDD.out; omega, HO5.out⟩, k', h2⟩
          rw [HDD.out]
          exact drP_none (drP_dry HR.out h1) d
      · obtain rfl : j = n0 := by omega
        have en : (j : Int) - (j : Int) = 0 := by omega
        rw [en]
        go_wp2_with fail
        go_ret
        unfold RwM
        exact ⟨HG.out, Or.inl ⟨l, k, _, HR.out, rfl, by unfold Own; rw [HL.out]; exact HO.out, HS.out⟩⟩
    · have HG : Hid (Chg w wr q (q + 1)) := g
      have HR : Hid (drP D k0 n0 = none) := hr
      have HS : Hid (Sp wr q v ws k false) := hs
      have c2 := hs.c2
      obtain ⟨d, hd⟩ : ∃ d, (n0 : Int) - (j : Int) = (d : Int) := ⟨n0 - j, by omega⟩
      rw [hd]
      clear hrel g hr hs hd ho
      by_cases hlt : 0 < d
      · have dl : decide ((0 : Int) < (d : Int)) = true := by simp; omega
        go_wp2_with fail
        go_ret
        unfold RwM
        exact ⟨HG.out, Or.inr ⟨HR.out, ⟨_, _, _, rfl⟩, k, HS.out⟩⟩
      · have dl : decide ((0 : Int) < (d : Int)) = false := by simp; omega
        go_wp2_with fail
        go_ret
        unfold RwM
        exact ⟨HG.out, Or.inr ⟨HR.out, ⟨_, _, _, rfl⟩, k, HS.out⟩⟩
set_option maxRecDepth 100000 in
set_option maxHeartbeats 4000000 in
theorem noises_m (D : Nat → Option (Int × Nat)) (ws : List Int) (q k0 n0 : Nat) (b : Nat) (v : Value) (w : World) (hn : n0 ≤ 64) (h : Sp w q v ws k0 true)
    (hD : ∀ k W, Sp W q v ws k true → Calls Try.prog 72 #[.pointer (some ⟨q, 0, none⟩), .int .i64 b] W fun e w' => DrM D ws W q v k e w') :
    Calls Try.prog 60 #[.pointer (some ⟨q, 0, none⟩), .int .i64 b, .int .i64 n0] w fun e w' => RwM (drP D k0 n0) ws w q v e w' := by
  obtain ⟨i0, hi, hz0, hz1, hz2⟩ := info_parts Try.infoInt
  have HD : Hid (∀ k W, Sp W q v ws k true → Calls Try.prog 72 #[.pointer (some ⟨q, 0, none⟩), .int .i64 b] W fun e w' => DrM D ws W q v k e w') := hD
  have HP : Hid (Sp w q v ws k0 true) := h
  have HQ : Hid (q < w.heap.size) := h.lt
  clear h hD
  go_enter Try.func60, Try.ntmps60
  go_wp2_with fail
  go_loopw [2, 7] (fun nv lv W => Hid (LpM D ws w q v k0 n0 lv nv W)) (fun nv _ _ => (intOf nv).toNat)
  case atStart => exact ⟨Chg.refl _ _ _, 0, by omega, by simp, Or.inl ⟨[], k0, none, 0, rfl, rfl, ⟨rfl, .inl ⟨rfl, rfl⟩⟩, HP.out⟩⟩
  case round =>
    obtain ⟨g, j, hj, rfl, ⟨l, k, a, c, hr, rfl, ho, hs⟩ | ⟨hr, ⟨a, m, c, cs, rfl, hm, ho⟩, k, hs⟩⟩ := hrel.out
    · have HG : Hid (Chg w wr q (q + 1)) := g
      have HR : Hid (drP D k0 j = some (l, k)) := hr
      have hl : l.length = j := drP_len j l k hr
      have HO : Hid (wr.ownsRow w.heap.size 3 1 (.slice a j c) j (l.map (Value.int .i64))) := by have := ho; unfold Own at this; rw [hl] at this; exact this
      have HS : Hid (Sp wr q v ws k true) := hs
      have c2 := hs.c2
      have HL : Hid (l.length = j) := hl
      clear hrel g hr ho hs hl
      by_cases hlt : j < n0
      · obtain ⟨d, hd⟩ : ∃ d, n0 = j + 1 + d := ⟨n0 - j - 1, by omega⟩
        have HDD : Hid (n0 = j + 1 + d) := hd
        have en : (n0 : Int) - (j : Int) = ((d + 1 : Nat) : Int) := by omega
        have ld : d ≤ 64 := by omega
        have lj : j ≤ 64 := by omega
        rw [en]
        have dl : decide ((0 : Int) < ((d + 1 : Nat) : Int)) = true := decide_eq_true (by omega)
        have es : ((d + 1 : Nat) : Int) - 1 = (d : Int) := by omega
        clear en hd hlt hj
        generalize d + 1 = d1 at *
        go_wp2_with fail
        refine (HD.out k wr HS.out).mono ?_
        rintro e w1 ⟨g1, t1⟩
        have HO1 : Hid (w1.ownsRow w.heap.size 3 1 (.slice a j c) j (l.map (Value.int .i64))) := by
          have hx : Own wr w.heap.size (.slice a j c) l := by unfold Own; rw [HL.out]; exact HO.out
          have := hx.chg g1 (fun p hp => Or.inr (by have := (hx.lt p hp).1; have := HQ.out; omega))
          unfold Own at this
          rw [HL.out] at this
          exact this
        have HG1 : Hid (Chg w w1 q (q + 1)) := HG.out.trans g1
        obtain ⟨x, rfl, HX⟩ : ∃ x, e = .returned (.int .i64 x) ∧ Hid ((∃ k', D k = some (x, k') ∧ Sp w1 q v ws k' true) ∨ (D k = none ∧ ∃ k', Sp w1 q v ws k' false)) := by
          rcases t1 with ⟨x, k', h1, h2, h3⟩ | ⟨h1, ⟨y, h2⟩, h3⟩
          · exact ⟨x, h2, Or.inl ⟨k', h1, h3⟩⟩
          · exact ⟨y, h2, Or.inr ⟨h1, h3⟩⟩
        have hz := HG1.out.size
        clear t1 g1 HS HO HG c2
        go_wp2_with (at_builtin; refine wpList_append_own _ rfl _ _ 23 rfl w.heap.size 3 i0 (.int .i64 0) 1 8 Try.underlying23 hi hz0 hz1 hz2 rfl (by decide) _ _ _ rfl (ownsRow_alloc HO1.out (.cells #[.int .i64 x] 3)) ⟨w1.heap.size, 0, none⟩ 1 1 [.int .i64 x] rfl rfl (oneC _ _ _) (oneO _) (by unfold maxLen; omega) (by omega) (by simp; omega) ?_; intro v5 w5 o5 g5 x5; obtain ⟨a5, c5, rfl⟩ := own_slice o5; have HO5 : Hid (w5.ownsRow w.heap.size 3 1 (.slice a5 (j + 1) c5) (j + 1) (l.map (Value.int .i64) ++ [.int .i64 x])) := o5; have HG5 : Hid (Chg w w5 q (q + 1)) := (HG1.out.alloc _).grown g5 (fun p hp => (HO1.out.lt p hp).1); have HX5 : Hid ((∃ k', D k = some (x, k') ∧ Sp w5 q v ws k' true) ∨ (D k = none ∧ ∃ k', Sp w5 q v ws k' false)) := (by
          have hq : ∀ p, (Value.slice a j c).ownBlock = some p → q < p := fun p hp => by have := (HO1.out.lt p hp).1; have := HQ.out; omega
          rcases HX.out with ⟨k', h1, h2⟩ | ⟨h1, k', h2⟩
          · exact Or.inl ⟨k', h1, (h2.alloc _).grown g5 hq⟩
          · exact Or.inr ⟨h1, k', (h2.alloc _).grown g5 hq⟩); clear o5 g5 x5)
        refine ⟨⟨HG5.out, j + 1, by have := HDD.out; omega, by have := HDD.out; congr 1; omega, ?_⟩, by simp [intOf]; omega⟩
        rcases HX5.out with ⟨k', h1, h2⟩ | ⟨h1, k', h2⟩
        · refine Or.inl ⟨l ++ [x], k', a5, c5, drP_succ HR.out h1, rfl, ?_, h2⟩
          have := HO5.out
          rw [← HL.out] at this
          have h7 := Own.snocZ this
          rw [HL.out] at h7
          exact h7
        · refine Or.inr ⟨?_, ⟨a5, j + 1, c5, _, rfl, by have := HDD.out; omega, HO5.out⟩, k', h2⟩
          rw [HDD.out]
          exact drP_none (drP_dry HR.out h1) d
      · obtain rfl : j = n0 := by omega
        have en : (j : Int) - (j : Int) = 0 := by omega
        rw [en]
        go_wp2_with fail
        go_ret
        unfold RwM
        exact ⟨HG.out, Or.inl ⟨l, k, _, HR.out, rfl, by unfold Own; rw [HL.out]; exact HO.out, HS.out⟩⟩
    · have HG : Hid (Chg w wr q (q + 1)) := g
      have HR : Hid (drP D k0 n0 = none) := hr
      have HS : Hid (Sp wr q v ws k false) := hs
      have c2 := hs.c2
      obtain ⟨d, hd⟩ : ∃ d, (n0 : Int) - (j : Int) = (d : Int) := ⟨n0 - j, by omega⟩
      rw [hd]
      clear hrel g hr hs hd ho
      by_cases hlt : 0 < d
      · have dl : decide ((0 : Int) < (d : Int)) = true := by simp; omega
        go_wp2_with fail
        go_ret
        unfold RwM
        exact ⟨HG.out, Or.inr ⟨HR.out, ⟨_, _, _, rfl⟩, k, HS.out⟩⟩
      · have dl : decide ((0 : Int) < (d : Int)) = false := by simp; omega
        go_wp2_with fail
        go_ret
        unfold RwM
        exact ⟨HG.out, Or.inr ⟨HR.out, ⟨_, _, _, rfl⟩, k, HS.out⟩⟩
end Go.Proofs.Ytonbimgdkafnjaa
