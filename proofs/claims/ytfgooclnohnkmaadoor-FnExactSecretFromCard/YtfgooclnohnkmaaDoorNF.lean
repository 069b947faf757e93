/- Proved: several texts in one: what each proves is said ahead of it. -/
import Derived.Test.YtfgooclnohnkmaaDoorCoin4
import Derived.Test.YtfgooclnohnkmaaDoorND
/- Proved: contracts of noise, of the program and of the model: the bits set among the lowest b, less those among the next b. -/
namespace Go.Proofs.YtfgooclnohnkmaaDoor
open Go.ChangeShapes Go.WideShapes Go.ChangeAt Go.RowKit
set_option linter.unusedVariables false
set_option linter.unusedSimpArgs false
theorem bit_mod (x b i : Nat) (h : i < b) : x % 2 ^ b / 2 ^ i % 2 = x / 2 ^ i % 2 := by
  have e := Nat.testBit_mod_two_pow x b i
  rw [decide_eq_true h, Bool.true_and, Nat.testBit_eq_decide_div_mod_eq, Nat.testBit_eq_decide_div_mod_eq] at e
  have h1 := Nat.mod_two_eq_zero_or_one (x % 2 ^ b / 2 ^ i)
  have h2 := Nat.mod_two_eq_zero_or_one (x / 2 ^ i)
  by_cases h3 : x / 2 ^ i % 2 = 1
  · rw [decide_eq_true h3] at e
    rw [of_decide_eq_true e, h3]
  · rw [decide_eq_false h3] at e
    have := of_decide_eq_false e
    omega
theorem sb_low (x b : Nat) : ∀ k, k ≤ b → sb (x % 2 ^ b) k = sb x k
  | 0, _ => rfl
  | k + 1, h => by
    unfold sb
    rw [sb_low x b k (by omega), bit_mod x b k (by omega)]
theorem sb_high (y b : Nat) (hy : y < 2 ^ b) : ∀ j, sb y (b + j) = sb y b
  | 0 => rfl
  | j + 1 => by
    show sb y (b + j) + y / 2 ^ (b + j) % 2 = sb y b
    rw [sb_high y b hy j, Nat.div_eq_of_lt (Nat.lt_of_lt_of_le hy (Nat.pow_le_pow_right (by omega) (by omega))), Nat.zero_mod, Nat.add_zero]
theorem sb_mod (x b : Nat) (hb : b ≤ 16) : sb (x % 2 ^ b) 16 = sb x b := by
  have h := sb_high (x % 2 ^ b) b (Nat.mod_lt _ (Nat.two_pow_pos b)) (16 - b)
  rw [show b + (16 - b) = 16 by omega] at h
  rw [h, sb_low x b b (Nat.le_refl _)]
theorem sb_le (x : Nat) : ∀ k, sb x k ≤ k
  | 0 => Nat.le_refl _
  | k + 1 => by
    have := sb_le x k
    have h2 : x / 2 ^ k % 2 < 2 := Nat.mod_lt _ (by omega)
    unfold sb
    omega
theorem pow16 {b : Nat} (hb : b ≤ 16) : 2 ^ b ≤ 65536 := Nat.pow_le_pow_right (by omega) hb
/-- what noise is drawn from a word -/
def nz (x b : Nat) : Int := (sb x b : Int) - (sb (x / 2 ^ b) b : Int)
/-- the first k terms of it -/
def nzK (x b k : Nat) : Int := (sb x k : Int) - (sb (x / 2 ^ b) k : Int)
theorem nzK_succ (x b k : Nat) : nzK x b (k + 1) = nzK x b k + (((x / 2 ^ k % 2 : Nat) : Int) - ((x / 2 ^ (b + k) % 2 : Nat) : Int)) := by
  show ((sb x k + x / 2 ^ k % 2 : Nat) : Int) - ((sb (x / 2 ^ b) k + x / 2 ^ b / 2 ^ k % 2 : Nat) : Int) = (sb x k : Int) - (sb (x / 2 ^ b) k : Int) + _
  rw [Nat.div_div_eq_div_mul, ← Nat.pow_add]
  omega
theorem nzK_le (x b k : Nat) : -(k : Int) ≤ nzK x b k ∧ nzK x b k ≤ k := by
  have := sb_le x k
  have := sb_le (x / 2 ^ b) k
  unfold nzK
  omega
/-- what noise leaves -/
def NzP (ws : List Int) (w : World) (c k b : Nat) (e : Ending) (w' : World) : Prop :=
  Chg w w' c (c + 2) ∧ ((k < ws.length ∧ e = .returned (.tuple #[.int .i64 (nz (ws.getD k 0).toNat b), .bool true]) ∧ Pu w' c ws (k + 1)) ∨ (k = ws.length ∧ ∃ y, e = .returned (.tuple #[.int .i64 y, .bool false])))
/-- what the model's noise leaves -/
def NzM (ws : List Int) (w : World) (q : Nat) (v : Value) (k b : Nat) (e : Ending) (w' : World) : Prop :=
  Chg w w' q (q + 1) ∧ ((k < ws.length ∧ e = .returned (.int .i64 (nz (ws.getD k 0).toNat b)) ∧ Sp w' q v ws (k + 1) true) ∨ (k = ws.length ∧ (∃ y, e = .returned (.int .i64 y)) ∧ Sp w' q v ws k false))
end Go.Proofs.YtfgooclnohnkmaaDoor
/- Proved: contracts of the model's rows of draws (uniforms, ternaries, noises): what so many draws one behind the other leave. -/
namespace Go.Proofs.YtfgooclnohnkmaaDoor
open Go.ChangeShapes Go.WideShapes Go.ChangeAt Go.RowKit
set_option linter.unusedVariables false
set_option linter.unusedSimpArgs false
/-- so many draws one behind the other: the numbers, and where they end; none where one of them lacks words -/
def drP (D : Nat → Option (Int × Nat)) (k0 : Nat) : Nat → Option (List Int × Nat)
  | 0 => some ([], k0)
  | n + 1 => match drP D k0 n with
    | none => none
    | some (l, k) => match D k with
      | none => none
      | some (x, k') => some (l ++ [x], k')
theorem drP_succ {D : Nat → Option (Int × Nat)} {k0 n k k' : Nat} {l : List Int} {x : Int} (h : drP D k0 n = some (l, k)) (hd : D k = some (x, k')) : drP D k0 (n + 1) = some (l ++ [x], k') := by
  simp [drP, h, hd]
theorem drP_dry {D : Nat → Option (Int × Nat)} {k0 n k : Nat} {l : List Int} (h : drP D k0 n = some (l, k)) (hd : D k = none) : drP D k0 (n + 1) = none := by
  simp [drP, h, hd]
theorem drP_none {D : Nat → Option (Int × Nat)} {k0 j : Nat} (h : drP D k0 j = none) : ∀ m, drP D k0 (j + m) = none
  | 0 => h
  | m + 1 => by
    show drP D k0 (j + m + 1) = none
    simp [drP, drP_none h m]
theorem drP_len {D : Nat → Option (Int × Nat)} {k0 : Nat} : ∀ n l k, drP D k0 n = some (l, k) → l.length = n
  | 0, l, k, h => by simp [drP] at h; rw [h.1]; rfl
  | n + 1, l, k, h => by
    simp only [drP] at h
    cases e : drP D k0 n with
    | none => rw [e] at h; simp at h
    | some p =>
      obtain ⟨l', k'⟩ := p
      rw [e] at h
      simp only at h
      cases e2 : D k' with
      | none => rw [e2] at h; simp at h
      | some p2 =>
        rw [e2] at h
        simp at h
        rw [← h.1, List.length_append, drP_len n l' k' e]
        rfl
theorem oneC (w : World) (x : Value) (t : TypeId) : ∀ j u, [x][j]? = some u → (w.alloc (.cells #[x] t)).cell? ((⟨w.heap.size, 0, none⟩ : Addr).add j) = some u := by
  intro j u h
  match j, h with
  | 0, h =>
    have : x = u := by simpa using h
    subst this
    exact cell_at w _ _ _ _ rfl
  | j + 1, h => simp at h
theorem oneO (x : Int) : ∀ u ∈ [Value.int .i64 x], u.oneCell' = true := by simp [Value.oneCell']
theorem Own.snocZ {w : World} {base : Nat} {v : Value} {xs : List Int} {y : Int} (h : w.ownsRow base 3 1 v (xs.length + 1) (xs.map (Value.int .i64) ++ [.int .i64 y])) : Own w base v (xs ++ [y]) := by
  unfold Own
  rw [List.length_append, List.map_append]
  exact h
theorem Chg.alloc {a b : World} {lo hi : Nat} (h : Chg a b lo hi) (o : Obj) : Chg a (b.alloc o) lo hi := h.trans (((Old.refl b).alloc o).toChg lo hi)
theorem Chg.refl (a : World) (lo hi : Nat) : Chg a a lo hi := (Old.refl a).toChg lo hi
theorem Chg.grown {a b c : World} {lo hi : Nat} {ob : Option Nat} (h : Chg a b lo hi) (g : b.grownBy c ob) (hk : ∀ k, ob = some k → a.heap.size ≤ k) : Chg a c lo hi :=
  ⟨g.os.trans h.os, g.tape.trans h.tape, g.output.trans h.output, Nat.le_trans h.size g.size, fun b hb ho => (g.block b (Nat.lt_of_lt_of_le hb h.size) (fun e => by have := hk b e.symm; omega)).trans (h.block b hb ho)⟩
theorem Sp.kept {w w' : World} {q k : Nat} {v : Value} {ws : List Int} {ok : Bool} (h : Sp w q v ws k ok) (hs : w.heap.size ≤ w'.heap.size) (hk : ∀ b, b ≤ q → w'.heap[b]? = w.heap[b]?) : Sp w' q v ws k ok := by
  obtain ⟨h1, h2, h3, h4⟩ := h
  refine ⟨h1, (hk q (Nat.le_refl _)).trans h2, ?_, h4⟩
  rcases h3 with h5 | ⟨b, o, cap, e, hb, h0, hc⟩
  · exact Or.inl h5
  · have := h4 b o cap e h0
    exact Or.inr ⟨b, o, cap, e, Nat.lt_of_lt_of_le hb hs, h0, fun i hi => (World.cell?_of_block (hk b (by omega))).trans (hc i hi)⟩
theorem Sp.alloc {w : World} {q k : Nat} {v : Value} {ws : List Int} {ok : Bool} (h : Sp w q v ws k ok) (o : Obj) : Sp (w.alloc o) q v ws k ok :=
  h.kept ((Old.refl w).alloc o).size (fun b hb => ((Old.refl w).alloc o).block b (Nat.lt_of_le_of_lt hb h.lt))
theorem Sp.grown {w w' : World} {q k : Nat} {v : Value} {ws : List Int} {ok : Bool} {ob : Option Nat} (h : Sp w q v ws k ok) (g : w.grownBy w' ob) (hk : ∀ j, ob = some j → q < j) : Sp w' q v ws k ok :=
  h.kept g.size (fun b hb => g.block b (Nat.lt_of_le_of_lt hb h.lt) (fun e => by have := hk b e.symm; omega))
/-- what one draw of the model's leaves -/
def DrM (D : Nat → Option (Int × Nat)) (ws : List Int) (w : World) (q : Nat) (v : Value) (k : Nat) (e : Ending) (w' : World) : Prop :=
  Chg w w' q (q + 1) ∧ ((∃ x k', D k = some (x, k') ∧ e = .returned (.int .i64 x) ∧ Sp w' q v ws k' true) ∨ (D k = none ∧ (∃ y, e = .returned (.int .i64 y)) ∧ ∃ k', Sp w' q v ws k' false))
/-- what a row of draws of the model's leaves -/
def RwM (R : Option (List Int × Nat)) (ws : List Int) (w : World) (q : Nat) (v : Value) (e : Ending) (w' : World) : Prop :=
  Chg w w' q (q + 1) ∧ ((∃ l k v', R = some (l, k) ∧ e = .returned v' ∧ Own w' w.heap.size v' l ∧ Sp w' q v ws k true) ∨ (R = none ∧ (∃ a m c, e = .returned (.slice a m c)) ∧ ∃ k, Sp w' q v ws k false))
/-- the loop's state -/
def LpM (D : Nat → Option (Int × Nat)) (ws : List Int) (w : World) (q : Nat) (v : Value) (k0 n0 : Nat) (lv nv : Value) (W : World) : Prop :=
  Chg w W q (q + 1) ∧ ∃ j, j ≤ n0 ∧ nv = .int .i64 ((n0 : Int) - j) ∧ ((∃ l k a c, drP D k0 j = some (l, k) ∧ lv = .slice a j c ∧ Own W w.heap.size (.slice a j c) l ∧ Sp W q v ws k true) ∨ (drP D k0 n0 = none ∧ (∃ a m c cs, lv = .slice a m c ∧ m ≤ n0 + 1 ∧ W.ownsRow w.heap.size 3 1 (.slice a m c) m cs) ∧ ∃ k, Sp W q v ws k false))
theorem own_slice {w : World} {base n : Nat} {v : Value} {cs : List Value} (h : w.ownsRow base 3 1 v n cs) : ∃ a c, v = .slice a n c := by
  rcases h.2 with ⟨h1, h2⟩ | ⟨g, cap, cur, h1, _⟩
  · exact ⟨none, 0, by rw [h1, h2]⟩
  · exact ⟨_, cap, h1⟩
theorem ownsRow_alloc {w : World} {base n : Nat} {v : Value} {cs : List Value} (h : w.ownsRow base 3 1 v n cs) (o : Obj) : (w.alloc o).ownsRow base 3 1 v n cs := by
  refine ⟨h.1, ?_⟩
  rcases h.2 with hn | ⟨p, cap, cur, rfl, hb, hgg, rest⟩
  · exact .inl hn
  · refine .inr ⟨p, cap, cur, rfl, hb, ?_, rest⟩
    rw [((Old.refl w).alloc o).block p (Array.getElem?_eq_some_iff.1 hgg).1]
    exact hgg
set_option maxRecDepth 100000 in
set_option maxHeartbeats 4000000 in
theorem ternaries_m (D : Nat → Option (Int × Nat)) (ws : List Int) (q k0 n0 : Nat) (v : Value) (w : World) (hn : n0 ≤ 64) (h : Sp w q v ws k0 true)
    (hD : ∀ k W, Sp W q v ws k true → Calls Tryd.prog 149 #[.pointer (some ⟨q, 0, none⟩)] W fun e w' => DrM D ws W q v k e w') :
    Calls Tryd.prog 114 #[.pointer (some ⟨q, 0, none⟩), .int .i64 n0] w fun e w' => RwM (drP D k0 n0) ws w q v e w' := by
  obtain ⟨i0, hi, hz0, hz1, hz2⟩ := info_parts Tryd.infoInt
  have HD : Hid (∀ k W, Sp W q v ws k true → Calls Tryd.prog 149 #[.pointer (some ⟨q, 0, none⟩)] W fun e w' => DrM D ws W q v k e w') := hD
  have HP : Hid (Sp w q v ws k0 true) := h
  have HQ : Hid (q < w.heap.size) := h.lt
  clear h hD
  go_enter Tryd.func114, Tryd.ntmps114
  go_wp2_with fail
  go_loopw [1, 5] (fun nv lv W => Hid (LpM D ws w q v k0 n0 lv nv W)) (fun nv _ _ => (intOf nv).toNat)
  case atStart => exact ⟨Chg.refl _ _ _, 0, by omega, by simp, Or.inl ⟨[], k0, none, 0, rfl, rfl, ⟨rfl, .inl ⟨rfl, rfl⟩⟩, HP.out⟩⟩
  case round =>
    obtain ⟨g, j, hj, rfl, ⟨l, k, a, c, hr, rfl, ho, hs⟩ | ⟨hr, ⟨a, m, c, cs, rfl, hm, ho⟩, k, hs⟩⟩ := hrel.out
    · have HG : Hid (Chg w wr q (q + 1)) := g
      have HR : Hid (drP D k0 j = some (l, k)) := hr
      have hl : l.length = j := drP_len j l k hr
      have HO : Hid (wr.ownsRow w.heap.size 3 1 (.slice a j c) j (l.map (Value.int .i64))) := by have := ho; unfold Own at this; rw [hl] at this; exact this
      have HS : Hid (Sp wr q v ws k true) := hs
      have c2 := hs.c2
      have HL : Hid (l.length = j) := hl
      clear hrel g hr ho hs hl
      by_cases hlt : j < n0
      · obtain ⟨d, hd⟩ : ∃ d, n0 = j + 1 + d := ⟨n0 - j - 1, by omega⟩
        have HDD : Hid (n0 = j + 1 + d) := hd
        have en : (n0 : Int) - (j : Int) = ((d + 1 : Nat) : Int) := by omega
        have ld : d ≤ 64 := by omega
        have lj : j ≤ 64 := by omega
        rw [en]
        have dl : decide ((0 : Int) < ((d + 1 : Nat) : Int)) = true := decide_eq_true (by omega)
        have es : ((d + 1 : Nat) : Int) - 1 = (d : Int) := by omega
        clear en hd hlt hj
        generalize d + 1 = d1 at *
        go_wp2_with fail
        refine (HD.out k wr HS.out).mono ?_
        rintro e w1 ⟨g1, t1⟩
        have HO1 : Hid (w1.ownsRow w.heap.size 3 1 (.slice a j c) j (l.map (Value.int .i64))) := by
          have hx : Own wr w.heap.size (.slice a j c) l := by unfold Own; rw [HL.out]; exact HO.out
          have := hx.chg g1 (fun p hp => Or.inr (by have := (hx.lt p hp).1; have := HQ.out; omega))
          unfold Own at this
          rw [HL.out] at this
          exact this
        have HG1 : Hid (Chg w w1 q (q + 1)) := HG.out.trans g1
        obtain ⟨x, rfl, HX⟩ : ∃ x, e = .returned (.int .i64 x) ∧ Hid ((∃ k', D k = some (x, k') ∧ Sp w1 q v ws k' true) ∨ (D k = none ∧ ∃ k', Sp w1 q v ws k' false)) := by
          rcases t1 with ⟨x, k', h1, h2, h3⟩ | ⟨h1, ⟨y, h2⟩, h3⟩
          · exact ⟨x, h2, Or.inl ⟨k', h1, h3⟩⟩
          · exact ⟨y, h2, Or.inr ⟨h1, h3⟩⟩
        have hz := HG1.out.size
        clear t1 g1 HS HO HG c2
        go_wp2_with (at_builtin; refine wpList_append_own _ rfl _ _ 23 rfl w.heap.size 3 i0 (.int .i64 0) 1 8 Tryd.underlying23 hi hz0 hz1 hz2 rfl (by decide) _ _ _ rfl (ownsRow_alloc HO1.out (.cells #[.int .i64 x] 3)) ⟨w1.heap.size, 0, none⟩ 1 1 [.int .i64 x] rfl rfl (oneC _ _ _) (oneO _) (by unfold maxLen; omega) (by omega) (by simp; omega) ?_; intro v5 w5 o5 g5 x5; obtain ⟨a5, c5, rfl⟩ := own_slice o5; have HO5 : Hid (w5.ownsRow w.heap.size 3 1 (.slice a5 (j + 1) c5) (j + 1) (l.map (Value.int .i64) ++ [.int .i64 x])) := o5; have HG5 : Hid (Chg w w5 q (q + 1)) := (HG1.out.alloc _).grown g5 (fun p hp => (HO1.out.lt p hp).1); have HX5 : Hid ((∃ k', D k = some (x, k') ∧ Sp w5 q v ws k' true) ∨ (D k = none ∧ ∃ k', Sp w5 q v ws k' false)) := (by
          have hq : ∀ p, (Value.slice a j c).ownBlock = some p → q < p := fun p hp => by have := (HO1.out.lt p hp).1; have := HQ.out; omega
          rcases HX.out with ⟨k', h1, h2⟩ | ⟨h1, k', h2⟩
          · exact Or.inl ⟨k', h1, (h2.alloc _).grown g5 hq⟩
          · exact Or.inr ⟨h1, k', (h2.alloc _).grown g5 hq⟩); clear o5 g5 x5)
        refine ⟨⟨HG5.out, j + 1, by have := HDD.out; omega, by have := HDD.out; congr 1; omega, ?_⟩, by simp [intOf]; omega⟩
        rcases HX5.out with ⟨k', h1, h2⟩ | ⟨h1, k', h2⟩
        · refine Or.inl ⟨l ++ [x], k', a5, c5, drP_succ HR.out h1, rfl, ?_, h2⟩
          have := HO5.out
          rw [← HL.out] at this
          have h7 := Own.snocZ this
          rw [HL.out] at h7
          exact h7
        · refine Or.inr ⟨?_, ⟨a5, j + 1, c5, _, rfl, by have := HDD.out; omega, HO5.out⟩, k', h2⟩
          rw [HDD.out]
          exact drP_none (drP_dry HR.out h1) d
      · obtain rfl : j = n0 := by omega
        have en : (j : Int) - (j : Int) = 0 := by omega
        rw [en]
        go_wp2_with fail
        go_ret
        unfold RwM
        exact ⟨HG.out, Or.inl ⟨l, k, _, HR.out, rfl, by unfold Own; rw [HL.out]; exact HO.out, HS.out⟩⟩
    · have HG : Hid (Chg w wr q (q + 1)) := g
      have HR : Hid (drP D k0 n0 = none) := hr
      have HS : Hid (Sp wr q v ws k false) := hs
      have c2 := hs.c2
      obtain ⟨d, hd⟩ : ∃ d, (n0 : Int) - (j : Int) = (d : Int) := ⟨n0 - j, by omega⟩
      rw [hd]
      clear hrel g hr hs hd ho
      by_cases hlt : 0 < d
      · have dl : decide ((0 : Int) < (d : Int)) = true := by simp; omega
        go_wp2_with fail
        go_ret
        unfold RwM
        exact ⟨HG.out, Or.inr ⟨HR.out, ⟨_, _, _, rfl⟩, k, HS.out⟩⟩
      · have dl : decide ((0 : Int) < (d : Int)) = false := by simp; omega
        go_wp2_with fail
        go_ret
        unfold RwM
        exact ⟨HG.out, Or.inr ⟨HR.out, ⟨_, _, _, rfl⟩, k, HS.out⟩⟩
end Go.Proofs.YtfgooclnohnkmaaDoor
/- Proved: contracts of the program's drawRow, with uniform and with noise: what so many draws one behind the other leave. -/
namespace Go.Proofs.YtfgooclnohnkmaaDoor
open Go.ChangeShapes Go.WideShapes Go.ChangeAt Go.RowKit
set_option linter.unusedVariables false
set_option linter.unusedSimpArgs false
/-- what one draw of the program's leaves -/
def DrP (D : Nat → Option (Int × Nat)) (ws : List Int) (w : World) (c k : Nat) (e : Ending) (w' : World) : Prop :=
  Chg w w' c (c + 2) ∧ ((∃ x k', D k = some (x, k') ∧ e = .returned (.tuple #[.int .i64 x, .bool true]) ∧ Pu w' c ws k') ∨ (D k = none ∧ ∃ y, e = .returned (.tuple #[.int .i64 y, .bool false])))
/-- what a row of draws of the program's leaves -/
def RwP (R : Option (List Int × Nat)) (w : World) (c : Nat) (e : Ending) (w' : World) : Prop :=
  Chg w w' c (c + 2) ∧ ((∃ l k v', R = some (l, k) ∧ e = .returned (.tuple #[v', .int .i64 (k : Nat), .bool true]) ∧ Own w' w.heap.size v' l) ∨ (R = none ∧ e = .returned (.tuple #[.slice none 0 0, .int .i64 0, .bool false])))
/-- j numbers, noughts behind -/
def zfill (l : List Int) (n : Nat) : List Int := l ++ List.replicate (n - l.length) 0
theorem zfill_len (l : List Int) (n : Nat) (h : l.length ≤ n) : (zfill l n).length = n := by simp [zfill]; omega
theorem zfill_set (l : List Int) (n : Nat) (x : Int) (h : l.length < n) : (zfill l n).set l.length x = zfill (l ++ [x]) n := by
  unfold zfill
  rw [show n - l.length = (n - (l ++ [x]).length) + 1 by simp; omega, List.replicate_succ, List.set_append_right _ _ (Nat.le_refl _), Nat.sub_self, List.set_cons_zero, List.append_assoc]
  rfl
theorem zfill_all (l : List Int) (n : Nat) (h : l.length = n) : zfill l n = l := by simp [zfill, h]
set_option maxRecDepth 100000 in
set_option maxHeartbeats 4000000 in
theorem drawRow_uniform (D : Nat → Option (Int × Nat)) (ws : List Int) (c k0 n0 b : Nat) (w : World) (hn : n0 ≤ 64) (h : Pu w c ws k0)
    (hD : ∀ k W, Pu W c ws k → Calls Tryd.prog 169 #[.pointer (some ⟨c + 1, 0, none⟩), .int .i64 b] W fun e w' => DrP D ws W c k e w') :
    Calls Tryd.prog 167 #[.pointer (some ⟨c + 1, 0, none⟩), .func (.func 169) #[] #[], .int .i64 b, .int .i64 n0] w fun e w' => RwP (drP D k0 n0) w c e w' := by
  obtain ⟨i0, hi, hz0, hz1, hz2⟩ := info_parts Tryd.infoInt
  have HD : Hid (∀ k W, Pu W c ws k → Calls Tryd.prog 169 #[.pointer (some ⟨c + 1, 0, none⟩), .int .i64 b] W fun e w' => DrP D ws W c k e w') := hD
  have HP : Hid (Pu w c ws k0) := h
  have HQ : Hid (c + 1 < w.heap.size) := h.lt
  clear h hD
  go_enter Tryd.func167, Tryd.ntmps167
  go_wp2_with (at_make; refine wpList_make_full _ rfl _ _ 23 rfl w.heap.size 3 i0 (.int .i64 0) 1 Tryd.underlying23 hi hz0 hz1 .i64 .i64 _ _ n0 rfl rfl rfl rfl (by rw [hz2]; omega) (by unfold maxLen; omega) (Nat.le_refl _) ?_; intro w1 hown hgrow)
  rw [made_ints, show List.replicate n0 (0 : Int) = zfill [] n0 by simp [zfill]] at hown
  have HO : Hid (w1.ownsRow w.heap.size 3 1 (.slice (some ⟨w.heap.size, 0, none⟩) n0 n0) n0 ((zfill [] n0).map (Value.int .i64))) := hown
  have HG0 : Hid (Old w w1) := Below.grown (Below.refl _ _) hgrow (Nat.le_refl _) (fun _ h => by cases h)
  clear hown hgrow
  go_loopw [19] (fun i W => ∃ j : Nat, j ≤ n0 ∧ i = .int .i64 j ∧ Hid (Chg w W c (c + 2)) ∧ ∃ l k, Hid (drP D k0 j = some (l, k)) ∧ Hid (W.ownsRow w.heap.size 3 1 (.slice (some ⟨w.heap.size, 0, none⟩) n0 n0) n0 ((zfill l n0).map (Value.int .i64))) ∧ Hid (Pu W c ws k)) (fun i _ => n0 - (intOf i).toNat)
  case atStart => exact ⟨0, by omega, rfl, HG0.out.toChg _ _, [], k0, rfl, HO, HP.out.old HG0.out⟩
  case round =>
    obtain ⟨j, hj, rfl, HG, l, k, HR, HO1, HP1⟩ := hrel
    clear HO HG0 HP
    have HL : Hid (l.length = j) := drP_len j l k HR.out
    by_cases hlt : j < n0
    · have dl : decide ((j : Int) < (n0 : Int)) = true := by simp; omega
      go_wp2_with fail
      refine (HD.out k wr HP1.out).mono ?_
      rintro e w1 ⟨g1, ⟨x, k', h1, rfl, h3⟩ | ⟨h1, y, rfl⟩⟩
      · have HR1 : Hid (drP D k0 (j + 1) = some (l ++ [x], k')) := drP_succ HR.out h1
        have HG1 : Hid (Chg w w1 c (c + 2)) := HG.out.trans g1
        have zl : (zfill l n0).length = n0 := zfill_len l n0 (by rw [HL.out]; omega)
        have HO2 : Hid (w1.ownsRow w.heap.size 3 1 (.slice (some ⟨w.heap.size, 0, none⟩) n0 n0) n0 ((zfill l n0).map (Value.int .i64))) := by
          have hx : Own wr w.heap.size (.slice (some ⟨w.heap.size, 0, none⟩) n0 n0) (zfill l n0) := by unfold Own; rw [zl]; exact HO1.out
          have := hx.chg g1 (fun p hp => Or.inr (by have := (hx.lt p hp).1; have := HQ.out; omega))
          unfold Own at this
          rw [zl] at this
          exact this
        have HP2 : Hid (Pu w1 c ws k') := h3
        have c2 : w1.cell? ⟨w.heap.size, j, none⟩ = some (.int .i64 ((zfill l n0).getD j 0)) := by
          rw [World.ownsRow.cellAt HO2.out j (by omega)]
          simp [List.getD, zl, hlt]
        have c3 : w1.frozen? ⟨w.heap.size, j, none⟩ = false := World.ownsRow.frozenAt HO2.out j
        have HS : Hid ((w1.setCell ⟨w.heap.size, j, none⟩ (.int .i64 x)).ownsRow w.heap.size 3 1 (.slice (some ⟨w.heap.size, 0, none⟩) n0 n0) n0 ((zfill (l ++ [x]) n0).map (Value.int .i64))) := by
          have := (World.ownsRow.stored HO2.out j (.int .i64 x)).1
          rw [← List.map_set, ← HL.out, zfill_set l n0 x (by rw [HL.out]; exact hlt)] at this
          rw [HL.out] at this
          exact this
        have HC2 : Hid (Chg w (w1.setCell ⟨w.heap.size, j, none⟩ (.int .i64 x)) c (c + 2)) :=
          ⟨HG1.out.os, HG1.out.tape, HG1.out.output, by rw [World.size_setCell]; exact HG1.out.size, fun p hp ho => (heap_setCell_other w1 ⟨w.heap.size, j, none⟩ p _ (by show p ≠ w.heap.size; omega)).trans (HG1.out.block p hp ho)⟩
        have HP3 : Hid (Pu (w1.setCell ⟨w.heap.size, j, none⟩ (.int .i64 x)) c ws k') := HP2.out.chg (chg_setCell _ _ _ _) (Or.inl (by have := HQ.out; omega))
        generalize (zfill l n0).getD j 0 = y at c2
        clear g1 h3 HO1 HO2 HG HP1 HP2 zl h1 HG1 HR
        go_wp2_with fail
        exact ⟨⟨j + 1, by omega, by go_num, HC2, l ++ [x], k', HR1, HS, HP3⟩, by simp [intOf]; omega⟩
      · have HR1 : Hid (drP D k0 n0 = none) := by
          have := drP_none (drP_dry HR.out h1) (n0 - (j + 1))
          rw [show j + 1 + (n0 - (j + 1)) = n0 by omega] at this
          exact this
        have HG1 : Hid (Chg w w1 c (c + 2)) := HG.out.trans g1
        clear g1 HO1 HG HP1 h1 HR
        go_wp2_with fail
        go_ret3
        unfold RwP
        exact ⟨HG1.out, Or.inr ⟨HR1.out, rfl⟩⟩
    · have dl : decide ((j : Int) < (n0 : Int)) = false := by simp; omega
      obtain rfl : j = n0 := by omega
      have HF : Hid (Own wr w.heap.size (.slice (some ⟨w.heap.size, 0, none⟩) j j) l) := by
        have := HO1.out
        rw [zfill_all l j HL.out] at this
        unfold Own
        rw [HL.out]
        exact this
      have c1 : wr.cell? ⟨c + 1, 1, none⟩ = some (.int .i64 (k : Int)) := by rw [cell_of_row _ _ _ _ _ _ HP1.out.cells]; rfl
      clear HO1 HP1
      go_wp2_with fail
      go_quiet (fail)
      go_wp2_with fail
      go_ret3
      unfold RwP
      exact ⟨HG.out.trans (chg_drew _ _ _ _), Or.inl ⟨l, k, _, HR.out, rfl, HF.out.old ((Old.refl _).drewN _)⟩⟩
end Go.Proofs.YtfgooclnohnkmaaDoor
/- Proved: contracts of the program's rows of draws: UniformRow, NoiseRow. -/
namespace Go.Proofs.YtfgooclnohnkmaaDoor
open Go.ChangeShapes Go.WideShapes Go.ChangeAt Go.RowKit
set_option linter.unusedVariables false
set_option linter.unusedSimpArgs false
/-- where a draw stops -/
def nx (ws : List Int) (M : Nat) : Nat → Nat → Nat
  | 0, k => k
  | f + 1, k => if ws.getD k 0 < (M : Int) then k else nx ws M f (k + 1)
theorem nx_stp (ws : List Int) (M : Nat) : ∀ f k, k + f = ws.length → Stp ws M k (nx ws M f k)
  | 0, k, h => ⟨Nat.le_refl _, by show k ≤ _; omega, fun i hi hj => by have : i < k := hj; omega, fun hk => by have : k < ws.length := hk; omega⟩
  | f + 1, k, h => by
    by_cases hx : ws.getD k 0 < (M : Int)
    · rw [nx, if_pos hx]
      exact ⟨Nat.le_refl _, by omega, fun i hi hj => by omega, fun _ => hx⟩
    · rw [nx, if_neg hx]
      obtain ⟨h1, h2, h3, h4⟩ := nx_stp ws M f (k + 1) (by omega)
      refine ⟨by omega, h2, fun i hi hj => ?_, h4⟩
      rcases Nat.eq_or_lt_of_le hi with e | e
      · subst e; omega
      · exact h3 i e hj
/-- a draw below p from number k on -/
def uD (ws : List Int) (p k : Nat) : Option (Int × Nat) :=
  if nx ws (mulM p) (ws.length - k) k < ws.length then some (ws.getD (nx ws (mulM p) (ws.length - k) k) 0 % (p : Int), nx ws (mulM p) (ws.length - k) k + 1) else none
/-- a draw of noise -/
def nD (ws : List Int) (b k : Nat) : Option (Int × Nat) := if k < ws.length then some (nz (ws.getD k 0).toNat b, k + 1) else none
theorem uniform_dp (ws : List Int) (c p : Nat) (hw : wdB ws = true) (hl : ws.length ≤ 4000) (hp : 2 ≤ p ∧ p ≤ 268435456) (k : Nat) (W : World) (h : Pu W c ws k) :
    Calls Tryd.prog 169 #[.pointer (some ⟨c + 1, 0, none⟩), .int .i64 p] W fun e w' => DrP (uD ws p) ws W c k e w' := by
  have hs := nx_stp ws (mulM p) (ws.length - k) k (by have := h.le; omega)
  refine (uniform_p ws c k p _ W hw hl h hp hs).mono ?_
  rintro e w' ⟨g, ⟨h1, h2, h3⟩ | ⟨h1, h2⟩⟩
  · exact ⟨g, Or.inl ⟨_, _, by unfold uD; rw [if_pos h1], h2, h3⟩⟩
  · exact ⟨g, Or.inr ⟨by unfold uD; rw [if_neg (by omega)], _, h2⟩⟩
theorem uniform_dm (ws : List Int) (q p : Nat) (v : Value) (hw : wdB ws = true) (hl : ws.length ≤ 4000) (hp : 2 ≤ p ∧ p ≤ 268435456) (k : Nat) (W : World) (h : Sp W q v ws k true) :
    Calls Tryd.prog 165 #[.pointer (some ⟨q, 0, none⟩), .int .i64 p] W fun e w' => DrM (uD ws p) ws W q v k e w' := by
  have hs := nx_stp ws (mulM p) (ws.length - k) k (by have := h.le; omega)
  refine (uniform_m ws q k p _ v W hw hl h hp hs).mono ?_
  rintro e w' ⟨g, ⟨h1, h2, h3⟩ | ⟨h1, h2, h3⟩⟩
  · exact ⟨g, Or.inl ⟨_, _, by unfold uD; rw [if_pos h1], h2, h3⟩⟩
  · exact ⟨g, Or.inr ⟨by unfold uD; rw [if_neg (by omega)], ⟨_, h2⟩, _, h3⟩⟩
/-- the numbers of an answer -/
def aL : Option (List Int × Nat) → List Int
  | some (l, _) => l
  | none => []
/-- the next at of an answer -/
def aK : Option (List Int × Nat) → Int
  | some (_, k) => k
  | none => 0
/-- what a row's call leaves -/
def RowAns (A : Option (List Int × Nat)) (W : World) (e : Ending) (w' : World) : Prop :=
  ∃ v', e = .returned (.tuple #[v', .int .i64 (aK A), .bool A.isSome]) ∧ Old W w' ∧ Own w' W.heap.size v' (aL A)
theorem rowAns_nil (W : World) : RowAns none W (.returned (.tuple #[.slice none 0 0, .int .i64 0, .bool false])) W := ⟨_, rfl, Old.refl W, rfl, .inl ⟨rfl, rfl⟩⟩
/-- whether one may draw -/
def mayB (ws : List Int) (at_ n : Int) : Bool := wsB ws && inQ at_ 0 ws.length && inQ n 0 64
theorem mayB_yes {ws : List Int} {at_ n : Int} (h : mayB ws at_ n = true) : wdB ws = true ∧ ws.length ≤ 4000 ∧ (0 ≤ at_ ∧ at_ ≤ ws.length) ∧ (0 ≤ n ∧ n ≤ 64) := by
  simp only [mayB, wsB, inQ, Bool.and_eq_true, decide_eq_true_eq] at h
  exact ⟨h.1.1.2, h.1.1.1, h.1.2, h.2⟩
def uRow (ws : List Int) (at_ p n : Int) : Option (List Int × Nat) := if mayB ws at_ n && modB p then drP (uD ws p.toNat) at_.toNat n.toNat else none
def nRow (ws : List Int) (at_ b n : Int) : Option (List Int × Nat) := if mayB ws at_ n && inQ b 1 16 then drP (nD ws b.toNat) at_.toNat n.toNat else none
theorem rowAns_draw {R : Option (List Int × Nat)} {W w1 w2 : World} {e : Ending} (g : Old W w1) (h : RwP R w1 W.heap.size e w2) : RowAns R W e w2 := by
  obtain ⟨c, ⟨l, k, v', rfl, rfl, ho⟩ | ⟨rfl, rfl⟩⟩ := h
  · exact ⟨v', rfl, g.chg c (Nat.le_refl _), ho.low g.size⟩
  · exact ⟨_, rfl, g.chg c (Nat.le_refl _), rfl, .inl ⟨rfl, rfl⟩⟩
set_option maxRecDepth 100000 in
set_option maxHeartbeats 2000000 in
theorem impl_UniformRow (ws : List Int) (v : Value) (at_ p n : Int) (w : World) (h : Row w v ws) (hf : Fit7 v) (hl : ws.length ≤ 9223372036854775807) :
    Calls Tryd.prog 150 #[v, .int .i64 at_, .int .i64 p, .int .i64 n] w fun e w' => RowAns (uRow ws at_ p n) w e w' := by
  have K1 := fun W (e : W = w) => (by subst e; exact mayDraw_any ws v at_ n _ h hl : Calls Tryd.prog 166 #[v, .int .i64 at_, .int .i64 n] W fun e w' => e = .returned (.bool (mayB ws at_ n)) ∧ w' = W)
  have K2 := fun W => impl_isModulus p W
  obtain ⟨a, cap, rfl⟩ := h.slice
  unfold uRow
  cases hm : mayB ws at_ n
  · rw [hm] at K1
    clear h hf K2 hm
    go_enter Tryd.func150, Tryd.ntmps150
    go_wp2_with fail
    refine (K1 _ rfl).mono ?_
    rintro e w' ⟨rfl, hw⟩
    obtain rfl := hw.symm
    go_wp2_with fail
    go_ret3
    exact rowAns_nil _
  · rw [hm] at K1
    cases hp : modB p
    · rw [hp] at K2
      clear h hf hm hp
      go_enter Tryd.func150, Tryd.ntmps150
      go_wp2_with fail
      refine (K1 _ rfl).mono ?_
      rintro e w' ⟨rfl, hw⟩
      obtain rfl := hw.symm
      go_wp2_with fail
      refine (K2 _).mono ?_
      rintro e w' ⟨rfl, hw⟩
      obtain rfl := hw.symm
      go_wp2_with fail
      go_ret3
      exact rowAns_nil _
    · rw [hp] at K2
      obtain ⟨h1, h2, ⟨h3, h4⟩, h5, h6⟩ := mayB_yes hm
      obtain ⟨h7, h8⟩ := modB_yes hp
      obtain ⟨A, rfl⟩ := Int.eq_ofNat_of_zero_le h3
      obtain ⟨P, rfl⟩ := Int.eq_ofNat_of_zero_le (show 0 ≤ p by omega)
      obtain ⟨N, rfl⟩ := Int.eq_ofNat_of_zero_le h5
      have K3 : Hid (∀ W, W = w → Calls Tryd.prog 168 #[.slice a ws.length cap, .int .i64 A] W fun e w' => e = .returned (.pointer (some ⟨W.heap.size + 1, 0, none⟩)) ∧ Old W w' ∧ Pu w' W.heap.size ws A) := fun W e => by subst e; exact purseOf_any ws _ A _ h hf h2 (by omega)
      have K4 : Hid (∀ c W, Pu W c ws A → Calls Tryd.prog 167 #[.pointer (some ⟨c + 1, 0, none⟩), .func (.func 169) #[] #[], .int .i64 P, .int .i64 N] W fun e w' => RwP (drP (uD ws P) A N) W c e w') :=
        fun c W hP => drawRow_uniform (uD ws P) ws c A N P W (by omega) hP (uniform_dp ws c P h1 h2 (by omega))
      clear h hf hm hp h1 h2 h3 h4 h5 h6 h7 h8 hl
      go_enter Tryd.func150, Tryd.ntmps150
      go_wp2_with fail
      refine (K1 _ rfl).mono ?_
      rintro e w' ⟨rfl, hw⟩
      obtain rfl := hw.symm
      go_wp2_with fail
      refine (K2 _).mono ?_
      rintro e w' ⟨rfl, hw⟩
      obtain rfl := hw.symm
      go_wp2_with fail
      refine (K3.out _ rfl).mono ?_
      rintro e w1 ⟨rfl, g1, p1⟩
      have HG : Hid (Old w w1) := g1
      have HP : Hid (Pu w1 w.heap.size ws A) := p1
      clear g1 p1
      go_wp2_with fail
      refine (K4.out _ _ HP.out).mono ?_
      intro e w2 hr
      have hA := rowAns_draw HG.out hr
      obtain ⟨v', rfl, HA⟩ : ∃ v', e = .returned (.tuple #[v', .int .i64 (aK (drP (uD ws P) A N)), .bool (drP (uD ws P) A N).isSome]) ∧ Hid (Old w w2 ∧ Own w2 w.heap.size v' (aL (drP (uD ws P) A N))) := by
        obtain ⟨v', h1, h2⟩ := hA
        exact ⟨v', h1, h2⟩
      clear hr hA
      have HR : Hid ((if true && true then drP (uD ws (P : Int).toNat) (A : Int).toNat (N : Int).toNat else none) = drP (uD ws P) A N) := by show _ = _; simp
      go_wp2_with fail
      go_ret3
      exact ⟨v', rfl, HA.out.1, HA.out.2⟩
end Go.Proofs.YtfgooclnohnkmaaDoor
/- Proved: contracts of the program's TernaryRow and of its draws of one: UniformFrom, TernaryFrom, NoiseFrom. -/
namespace Go.Proofs.YtfgooclnohnkmaaDoor
open Go.ChangeShapes Go.WideShapes Go.ChangeAt Go.RowKit
set_option linter.unusedVariables false
set_option linter.unusedSimpArgs false
/-- 2 is -1 -/
def tern (x : Int) : Int := if x = 2 then -1 else x
/-- a draw of -1, 0 or 1 -/
def tD (ws : List Int) (k : Nat) : Option (Int × Nat) := match uD ws 3 k with
  | none => none
  | some (x, k') => some (tern x, k')
theorem drP_map (ws : List Int) (k0 : Nat) : ∀ n, drP (tD ws) k0 n = match drP (uD ws 3) k0 n with
    | none => none
    | some (l, k) => some (l.map tern, k)
  | 0 => rfl
  | n + 1 => by
    simp only [drP]
    rw [drP_map ws k0 n]
    cases h : drP (uD ws 3) k0 n with
    | none => rfl
    | some p =>
      obtain ⟨l, k⟩ := p
      simp only [tD]
      cases h2 : uD ws 3 k with
      | none => rfl
      | some p2 =>
        obtain ⟨x, k'⟩ := p2
        simp
theorem drP_in {ws : List Int} {k0 p : Nat} (hp : 0 < p) : ∀ n l k, drP (uD ws p) k0 n = some (l, k) → ∀ x ∈ l, 0 ≤ x ∧ x < p
  | 0, l, k, h, x, hx => by simp [drP] at h; rw [h.1] at hx; simp at hx
  | n + 1, l, k, h, x, hx => by
    simp only [drP] at h
    cases e : drP (uD ws p) k0 n with
    | none => rw [e] at h; simp at h
    | some q =>
      obtain ⟨l', k'⟩ := q
      rw [e] at h
      simp only at h
      cases e2 : uD ws p k' with
      | none => rw [e2] at h; simp at h
      | some q2 =>
        obtain ⟨y, k2⟩ := q2
        rw [e2] at h
        simp only [Option.some.injEq, Prod.mk.injEq] at h
        rw [← h.1] at hx
        rcases List.mem_append.1 hx with h3 | h3
        · exact drP_in hp n l' k' e x h3
        · rw [List.mem_singleton] at h3
          subst h3
          unfold uD at e2
          split at e2
          · simp only [Option.some.injEq, Prod.mk.injEq] at e2
            rw [← e2.1]
            exact ⟨Int.emod_nonneg _ (by omega), Int.emod_lt_of_pos _ (by omega)⟩
          · cases e2
def tRow (ws : List Int) (at_ n : Int) : Option (List Int × Nat) := if mayB ws at_ n then drP (tD ws) at_.toNat n.toNat else none
theorem uRow3 (ws : List Int) (at_ n : Int) : uRow ws at_ 3 n = if mayB ws at_ n then drP (uD ws 3) at_.toNat n.toNat else none := by
  unfold uRow
  rw [show modB 3 = true by rfl, Bool.and_true]
  rfl
theorem tRow_is (ws : List Int) (at_ n : Int) : aK (tRow ws at_ n) = aK (uRow ws at_ 3 n) ∧ (tRow ws at_ n).isSome = (uRow ws at_ 3 n).isSome ∧ aL (tRow ws at_ n) = (aL (uRow ws at_ 3 n)).map tern := by
  rw [uRow3]
  unfold tRow
  cases mayB ws at_ n
  · exact ⟨rfl, rfl, rfl⟩
  · simp only [if_true]
    rw [drP_map]
    cases drP (uD ws 3) at_.toNat n.toNat with
    | none => exact ⟨rfl, rfl, rfl⟩
    | some p => exact ⟨rfl, rfl, rfl⟩
theorem uRow3_in (ws : List Int) (at_ n : Int) : (∀ x ∈ aL (uRow ws at_ 3 n), 0 ≤ x ∧ x < 3) ∧ (aL (uRow ws at_ 3 n)).length ≤ 64 := by
  rw [uRow3]
  cases hm : mayB ws at_ n
  · exact ⟨fun x hx => by simp [aL] at hx, by simp [aL]⟩
  · simp only [if_true]
    obtain ⟨_, _, _, h5, h6⟩ := mayB_yes hm
    cases h : drP (uD ws 3) at_.toNat n.toNat with
    | none => exact ⟨fun x hx => by simp [aL] at hx, by simp [aL]⟩
    | some p =>
      obtain ⟨l, k⟩ := p
      refine ⟨drP_in (p := 3) (by omega) _ l k h, ?_⟩
      show l.length ≤ 64
      rw [drP_len _ l k h]
      omega
theorem centred3 (x : Int) (h : 0 ≤ x ∧ x < 3) (w : World) : Calls Tryd.prog 70 #[.int .i64 x, .int .i64 3] w fun e w' => e = .returned (.int .i64 (tern x)) ∧ w' = w := by
  obtain ⟨h1, h2⟩ := h
  obtain rfl | rfl | rfl : x = 0 ∨ x = 1 ∨ x = 2 := by omega
  all_goals
    go_enter Tryd.func70, Tryd.ntmps70
    go_wp2_with fail
    go_ret
    exact ⟨rfl, rfl⟩
/-- the first j numbers turned -/
def tmap (zs : List Int) (j : Nat) : List Int := (zs.take j).map tern ++ zs.drop j
theorem tmap_len (zs : List Int) (j : Nat) : (tmap zs j).length = zs.length := by simp [tmap]; omega
theorem tmap_set (zs : List Int) (j : Nat) (h : j < zs.length) : (tmap zs j).set j (tern (zs.getD j 0)) = tmap zs (j + 1) := by
  unfold tmap
  have hl : ((zs.take j).map tern).length = j := by simp; omega
  rw [List.set_append_right _ _ (by rw [hl]; exact Nat.le_refl _), hl, Nat.sub_self, List.drop_eq_getElem_cons h, List.set_cons_zero, take_succI zs j h, List.map_append, List.append_assoc]
  rfl
theorem tmap_get (zs : List Int) (j : Nat) (h : j < zs.length) : (tmap zs j).getD j 0 = zs.getD j 0 := by
  unfold tmap
  have hl : ((zs.take j).map tern).length = j := by simp; omega
  rw [List.getD_eq_getElem?_getD, List.getElem?_append_right (by rw [hl]; exact Nat.le_refl _), hl, Nat.sub_self]
  simp [List.getD, h]
theorem tmap_all (zs : List Int) : tmap zs zs.length = zs.map tern := by simp [tmap]
set_option maxRecDepth 100000 in
set_option maxHeartbeats 2000000 in
theorem impl_TernaryRow (ws : List Int) (v : Value) (at_ n : Int) (w : World) (h : Row w v ws) (hf : Fit7 v) (hl : ws.length ≤ 9223372036854775807) :
    Calls Tryd.prog 115 #[v, .int .i64 at_, .int .i64 n] w fun e w' => RowAns (tRow ws at_ n) w e w' := by
  have K1 : Hid (∀ W, W = w → Calls Tryd.prog 150 #[v, .int .i64 at_, .int .i64 3, .int .i64 n] W fun e w' => RowAns (uRow ws at_ 3 n) W e w') := fun W e => by subst e; exact impl_UniformRow ws v at_ 3 n _ h hf hl
  obtain ⟨a, cap, rfl⟩ := h.slice
  obtain ⟨t1, t2, t3⟩ := tRow_is ws at_ n
  obtain ⟨t4, t5⟩ := uRow3_in ws at_ n
  obtain ⟨K, hK⟩ : ∃ K, K = aK (uRow ws at_ 3 n) := ⟨_, rfl⟩
  obtain ⟨B, hB⟩ : ∃ B, B = (uRow ws at_ 3 n).isSome := ⟨_, rfl⟩
  obtain ⟨zs, hzs⟩ : ∃ zs, zs = aL (uRow ws at_ 3 n) := ⟨_, rfl⟩
  rw [← hK] at t1
  rw [← hB] at t2
  rw [← hzs] at t3 t4 t5
  have HT : Hid (aK (tRow ws at_ n) = K ∧ (tRow ws at_ n).isSome = B ∧ aL (tRow ws at_ n) = zs.map tern) := ⟨t1, t2, t3⟩
  have HZ : Hid (∀ x ∈ zs, 0 ≤ x ∧ x < 3) := t4
  have K1' : Hid (∀ W, W = w → Calls Tryd.prog 150 #[.slice a ws.length cap, .int .i64 at_, .int .i64 3, .int .i64 n] W fun e w' => ∃ v', e = .returned (.tuple #[v', .int .i64 K, .bool B]) ∧ Hid (Old W w' ∧ Own w' W.heap.size v' zs)) := fun W e => (K1.out W e).mono fun e w' ⟨v', h1, h2⟩ => ⟨v', by rw [h1, hK, hB], by rw [hzs]; exact h2⟩
  clear t1 t2 t3 t4 hK hB hzs K1 h hf
  go_enter Tryd.func115, Tryd.ntmps115
  go_wp2_with fail
  refine (K1'.out _ rfl).mono ?_
  rintro e w1 ⟨v', rfl, HX⟩
  by_cases h0 : zs.length = 0
  · obtain rfl := List.length_eq_zero_iff.1 h0
    obtain ⟨a0, cap0, rfl⟩ := (Own.row HX.out.2).slice
    go_wp2_with fail
    refine wp_loop_rounds 1 ?_
    rw [rounds_succ]
    go_wp2_with fail
    go_ret3
    unfold RowAns
    rw [HT.out.1, HT.out.2.1, HT.out.2.2]
    exact ⟨_, rfl, HX.out.1, HX.out.2⟩
  · obtain ⟨g, cp, rfl⟩ : ∃ g cap, v' = .slice (some ⟨g, 0, none⟩) zs.length cap := by
      rcases HX.out.2.2 with ⟨_, h1⟩ | ⟨g, cap, cur, e, _⟩
      · exact absurd h1 h0
      · exact ⟨g, cap, e⟩
    have HO : Hid (w1.ownsRow w.heap.size 3 1 (.slice (some ⟨g, 0, none⟩) zs.length cp) zs.length ((tmap zs 0).map (Value.int .i64))) := HX.out.2
    have HG : Hid (Old w w1) := HX.out.1
    clear HX h0
    go_wp2_with fail
    go_loopw [24] (fun i W => ∃ j : Nat, j ≤ zs.length ∧ i = .int .i64 j ∧ Hid (W.ownsRow w.heap.size 3 1 (.slice (some ⟨g, 0, none⟩) zs.length cp) zs.length ((tmap zs j).map (Value.int .i64))) ∧ Hid (Old w W)) (fun i _ => zs.length - (intOf i).toNat)
    case atStart => exact ⟨0, by omega, rfl, HO, HG⟩
    case round =>
      obtain ⟨j, hj, rfl, HO1, HG1⟩ := hrel
      clear HO HG
      by_cases hlt : j < zs.length
      · have dl : decide ((j : Int) < (zs.length : Int)) = true := by simp; omega
        have c2 : wr.cell? ⟨g, j, none⟩ = some (.int .i64 (zs.getD j 0)) := by
          rw [World.ownsRow.cellAt HO1.out j (by omega), ← tmap_get zs j hlt]
          have := tmap_len zs j
          simp [List.getD, this, hlt]
        have c3 : wr.frozen? ⟨g, j, none⟩ = false := World.ownsRow.frozenAt HO1.out j
        have K2 := fun W => centred3 (zs.getD j 0) (HZ.out _ (by simp [List.getD, hlt])) W
        have st := World.ownsRow.stored HO1.out j (.int .i64 (tern (zs.getD j 0)))
        have HS : Hid ((wr.setCell ⟨g, j, none⟩ (.int .i64 (tern (zs.getD j 0)))).ownsRow w.heap.size 3 1 (.slice (some ⟨g, 0, none⟩) zs.length cp) zs.length ((tmap zs (j + 1)).map (Value.int .i64))) := by
          have := st.1
          rw [← List.map_set, tmap_set zs j hlt] at this
          exact this
        have HG2 : Hid (Old w (wr.setCell ⟨g, j, none⟩ (.int .i64 (tern (zs.getD j 0))))) := Below.grown HG1.out st.2 HG1.out.size (fun b hb => (HO1.out.lt b hb).1)
        clear st HO1
        generalize zs.getD j 0 = x at *
        generalize tern x = y at *
        go_wp2_with fail
        refine (K2 _).mono ?_
        rintro e w' ⟨rfl, hw⟩
        obtain rfl := hw.symm
        go_wp2_with fail
        exact ⟨⟨j + 1, by omega, by go_num, HS, HG2⟩, by simp [intOf]; omega⟩
      · have dl : decide ((j : Int) < (zs.length : Int)) = false := by simp; omega
        obtain rfl : j = zs.length := by omega
        have HF : Hid (Own wr w.heap.size (.slice (some ⟨g, 0, none⟩) zs.length cp) (zs.map tern)) := by
          have := HO1.out
          rw [tmap_all] at this
          unfold Own
          rw [List.length_map]
          exact this
        clear HO1
        go_wp2_with fail
        go_ret3
        unfold RowAns
        rw [HT.out.1, HT.out.2.1, HT.out.2.2]
        exact ⟨_, rfl, HG1.out, HF.out⟩
/-- the number drawn -/
def fX : Option (Int × Nat) → Int
  | some (x, _) => x
  | none => 0
/-- the next at -/
def fK : Option (Int × Nat) → Int
  | some (_, k) => k
  | none => 0
/-- what a draw's call leaves -/
def FromAns (A : Option (Int × Nat)) (W : World) (e : Ending) (w' : World) : Prop :=
  e = .returned (.tuple #[.int .i64 (fX A), .int .i64 (fK A), .bool A.isSome]) ∧ Old W w'
/-- a row of one -/
def rowOne : Option (Int × Nat) → Option (List Int × Nat)
  | some (x, k) => some ([x], k)
  | none => none
theorem drP_one (D : Nat → Option (Int × Nat)) (k : Nat) : drP D k 1 = rowOne (D k) := by
  simp only [drP]
  cases D k with
  | none => rfl
  | some p => rfl
def atB (ws : List Int) (at_ : Int) : Bool := wsB ws && inQ at_ 0 ws.length
theorem mayB_one (ws : List Int) (at_ : Int) : mayB ws at_ 1 = atB ws at_ := by
  unfold mayB atB
  rw [show inQ 1 0 64 = true by rfl, Bool.and_true]
def uFrom (ws : List Int) (at_ p : Int) : Option (Int × Nat) := if atB ws at_ && modB p then uD ws p.toNat at_.toNat else none
def tFrom (ws : List Int) (at_ : Int) : Option (Int × Nat) := if atB ws at_ then tD ws at_.toNat else none
def nFrom (ws : List Int) (at_ b : Int) : Option (Int × Nat) := if atB ws at_ && inQ b 1 16 then nD ws b.toNat at_.toNat else none
theorem uRow_one (ws : List Int) (at_ p : Int) : uRow ws at_ p 1 = rowOne (uFrom ws at_ p) := by
  unfold uRow uFrom
  rw [mayB_one]
  cases atB ws at_ && modB p
  · rfl
  · exact drP_one _ _
theorem tRow_one (ws : List Int) (at_ : Int) : tRow ws at_ 1 = rowOne (tFrom ws at_) := by
  unfold tRow tFrom
  rw [mayB_one]
  cases atB ws at_
  · rfl
  · exact drP_one _ _
theorem nRow_one (ws : List Int) (at_ b : Int) : nRow ws at_ b 1 = rowOne (nFrom ws at_ b) := by
  unfold nRow nFrom
  rw [mayB_one]
  cases atB ws at_ && inQ b 1 16
  · rfl
  · exact drP_one _ _
end Go.Proofs.YtfgooclnohnkmaaDoor
/- Proved: contracts of the model's six functions of chapter 7. -/
namespace Go.Proofs.YtfgooclnohnkmaaDoor
open Go.ChangeShapes Go.WideShapes Go.ChangeAt Go.RowKit
set_option linter.unusedVariables false
set_option linter.unusedSimpArgs false
theorem l7Noise_any (b : Int) (w : World) : Calls Tryd.prog 107 #[.int .i64 b] w fun e w' => e = .returned (.bool (inQ b 1 16)) ∧ w' = w := by
  have K1 := fun W => in_any b 1 16 W
  generalize inQ b 1 16 = r at *
  go_enter Tryd.func107, Tryd.ntmps107
  go_wp2_with fail
  refine (K1 _).mono ?_
  rintro e w' ⟨rfl, rfl⟩
  go_wp2_with fail
  go_ret
  exact ⟨rfl, rfl⟩
theorem ternary_dm (ws : List Int) (q : Nat) (v : Value) (hw : wdB ws = true) (hl : ws.length ≤ 4000) (k : Nat) (W : World) (h : Sp W q v ws k true) :
    Calls Tryd.prog 149 #[.pointer (some ⟨q, 0, none⟩)] W fun e w' => DrM (tD ws) ws W q v k e w' := by
  have K1 : Hid (Calls Tryd.prog 165 #[.pointer (some ⟨q, 0, none⟩), .int .i64 3] W fun e w' => DrM (uD ws 3) ws W q v k e w') := uniform_dm ws q 3 v hw hl (by omega) k W h
  clear h hw
  go_enter Tryd.func149, Tryd.ntmps149
  go_wp2_with fail
  refine K1.out.mono ?_
  rintro e w1 ⟨g, ⟨x, k', h1, rfl, h3⟩ | ⟨h1, ⟨y, rfl⟩, k', h3⟩⟩
  · have HF : Hid (DrM (tD ws) ws W q v k (.returned (.int .i64 (tern x))) w1) := ⟨g, Or.inl ⟨tern x, k', by unfold tD; rw [h1], rfl, h3⟩⟩
    clear g h1 h3
    by_cases hx : x = 2
    · subst hx
      go_wp2_with fail
      go_ret
      exact HF.out
    · have d1 : (x == 2) = false := by simp [hx]
      have e1 : tern x = x := by simp [tern, hx]
      rw [e1] at HF
      go_wp2_with fail
      go_ret
      exact HF.out
  · have HF : Hid (∀ z, DrM (tD ws) ws W q v k (.returned (.int .i64 z)) w1) := fun z => ⟨g, Or.inr ⟨by unfold tD; rw [h1], ⟨z, rfl⟩, k', h3⟩⟩
    clear g h1 h3
    by_cases hx : y = 2
    · subst hx
      go_wp2_with fail
      go_ret
      exact HF.out _
    · have d1 : (y == 2) = false := by simp [hx]
      go_wp2_with fail
      go_ret
      exact HF.out _
theorem outRow_yes (ws : List Int) (q k m c : Nat) (a : Option Addr) (v : Value) (w : World) (h : Sp w q v ws k true) :
    Calls Tryd.prog 113 #[.pointer (some ⟨q, 0, none⟩), .slice a m c] w fun e w' => e = .returned (.tuple #[.slice a m c, .int .i64 (k : Int), .bool true]) ∧ Old w w' := by
  have c1 := h.c1
  have c2 := h.c2
  clear h
  go_enter Tryd.func113, Tryd.ntmps113
  go_wp2_with fail
  go_quiet (fail)
  go_wp2_with fail
  go_ret3
  exact ⟨rfl, (Old.refl w).drewN _⟩
theorem outRow_no (ws : List Int) (q k m c : Nat) (a : Option Addr) (v : Value) (w : World) (h : Sp w q v ws k false) :
    Calls Tryd.prog 113 #[.pointer (some ⟨q, 0, none⟩), .slice a m c] w fun e w' => e = .returned (.tuple #[.slice none 0 0, .int .i64 0, .bool false]) ∧ Old w w' := by
  have c2 := h.c2
  clear h
  go_enter Tryd.func113, Tryd.ntmps113
  go_wp2_with fail
  go_ret3
  exact ⟨rfl, Old.refl w⟩
theorem Sp.new {w : World} {v : Value} {ws : List Int} {k : Nat} (h : Row w v ws) (hk : k ≤ ws.length) : Sp (w.alloc (.cells #[v, .int .i64 (k : Int), .bool true] 166)) w.heap.size v ws k true := by
  refine ⟨hk, heap_alloc_new _ _, h.old ((Old.refl w).alloc _), fun b o cap e h0 => ?_⟩
  rcases h with ⟨a, c, e1, e2⟩ | ⟨b', o', c, e1, hb, _⟩
  · rw [e2] at h0; simp at h0
  · rw [e] at e1
    injection e1 with e3
    injection e3 with e4
    injection e4 with e5
    rw [e5]
    exact hb
theorem atB_yes {ws : List Int} {at_ : Int} (h : atB ws at_ = true) : wdB ws = true ∧ ws.length ≤ 4000 ∧ (0 ≤ at_ ∧ at_ ≤ ws.length) := by
  simp only [atB, wsB, inQ, Bool.and_eq_true, decide_eq_true_eq] at h
  exact ⟨h.1.2, h.1.1, h.2⟩
theorem l7Words_at (ws : List Int) (v : Value) (at_ : Int) (w : World) (h : Row w v ws) (hl : ws.length ≤ 9223372036854775807) :
    Calls Tryd.prog 111 #[v, .int .i64 at_] w fun e w' => e = .returned (.bool (atB ws at_)) ∧ w' = w := l7Words_any ws v at_ w h hl
theorem mayB_at (ws : List Int) (at_ n : Int) : mayB ws at_ n = (atB ws at_ && inQ n 0 64) := rfl
end Go.Proofs.YtfgooclnohnkmaaDoor
/- Proved: a row that is drawn has at most 64 numbers. -/
namespace Go.Proofs.YtfgooclnohnkmaaDoor
open Go.ChangeShapes Go.WideShapes Go.ChangeAt Go.RowKit
theorem len_drP (D : Nat → Option (Int × Nat)) (g : Bool) (k : Nat) (n : Int) (h : g = true → n ≤ 64) : (aL (if g then drP D k n.toNat else none)).length ≤ 1000 := by
  cases g
  · simp [aL]
  · simp only [if_true]
    cases h2 : drP D k n.toNat with
    | none => simp [aL]
    | some p =>
      obtain ⟨l, k'⟩ := p
      show l.length ≤ 1000
      rw [drP_len _ l k' h2]
      have := h rfl
      omega
theorem len_uRow (ws : List Int) (at_ p n : Int) : (aL (uRow ws at_ p n)).length ≤ 1000 := len_drP _ _ _ n (fun h => (mayB_yes (Bool.and_eq_true_iff.1 h).1).2.2.2.2)
theorem len_nRow (ws : List Int) (at_ b n : Int) : (aL (nRow ws at_ b n)).length ≤ 1000 := len_drP _ _ _ n (fun h => (mayB_yes (Bool.and_eq_true_iff.1 h).1).2.2.2.2)
theorem len_tRow (ws : List Int) (at_ n : Int) : (aL (tRow ws at_ n)).length ≤ 1000 := len_drP _ _ _ n (fun h => (mayB_yes h).2.2.2.2)
end Go.Proofs.YtfgooclnohnkmaaDoor
/- Proved: contracts of SecretFrom, of model and program. -/
namespace Go.Proofs.YtfgooclnohnkmaaDoor
open Go.ChangeShapes Go.WideShapes Go.ChangeAt Go.RowKit
set_option linter.unusedVariables false
set_option linter.unusedSimpArgs false
/-- the secret that is drawn -/
def secA (N T E : Int) (xs ws : List Int) (at_ : Int) : Option (List Int × Nat) := if prB N T E xs then tRow ws at_ N else none
theorem len_sec (N T E : Int) (xs ws : List Int) (at_ : Int) : (aL (secA N T E xs ws at_)).length ≤ 1000 := by
  unfold secA
  split
  · exact len_tRow ws at_ N
  · simp [aL]
theorem pr_sp {N T E : Int} {xs : List Int} (h : prB N T E xs = true) : spB N xs = true := by
  unfold prB at h
  exact (Bool.and_eq_true_iff.1 h).1
theorem rowAns_old {A : Option (List Int × Nat)} {w W w' : World} {e : Ending} (g : Old w W) (h : RowAns A W e w') : RowAns A w e w' := by
  obtain ⟨v', h1, h2, h3⟩ := h
  exact ⟨v', h1, Old.trans g h2, h3.low g.size⟩
theorem l8Source_any (v : Value) (a : Option Addr) (l c : Nat) (hv : v = .slice a l c) (at_ : Int) (w : World) :
    Calls Tryd.prog 112 #[v, .int .i64 at_] w fun e w' => e = .returned (.pointer (some ⟨w.heap.size, 0, none⟩)) ∧ w' = w.alloc (.cells #[v, .int .i64 at_, .bool true] 166) := by
  subst hv
  go_enter Tryd.func112, Tryd.ntmps112
  go_wp2_with fail
  go_ret
  exact ⟨rfl, rfl⟩
set_option maxRecDepth 100000 in
set_option maxHeartbeats 4000000 in
theorem impl_SecretFrom (N T E : Int) (xs ws : List Int) (v u : Value) (at_ : Int) (w : World) (hP : PrsW w) (hT : TabW w) (hv : Row w v xs) (hf : Fit v) (hl : xs.length ≤ 9223372036854775807) (hu : Row w u ws) (hfu : Fit7 u) (hlu : ws.length ≤ 9223372036854775807) :
    Calls Tryd.prog 44 #[.agg #[.int .i64 N, .int .i64 T, .int .i64 E, v], u, .int .i64 at_] w fun e w' => RowAns (secA N T E xs ws at_) w e w' := by
  have K1 : ∀ W, Old w W → Calls Tryd.prog 41 #[.agg #[.int .i64 N, .int .i64 T, .int .i64 E, v]] W fun e w' => e = .returned (.bool (prB N T E xs)) ∧ Old W w' := fun W g => impl_goodParams N T E xs v W (hP.old g) (hT.old g) (hv.old g) hf hl
  have K2 : ∀ W, Old w W → Calls Tryd.prog 115 #[u, .int .i64 at_, .int .i64 N] W fun e w' => RowAns (tRow ws at_ N) w e w' := fun W g => (impl_TernaryRow ws u at_ N W (hu.old g) hfu hlu).mono fun e w' h => rowAns_old g h
  obtain ⟨a0, c0, rfl⟩ := hv.slice
  obtain ⟨a1, c1, rfl⟩ := hu.slice
  have HA : Hid (Old w (w.alloc (.cells #[.int .i64 N, .int .i64 T, .int .i64 E, .slice a0 xs.length c0] 69))) := (Old.refl w).alloc _
  have BA : Hid (Bk (w.alloc (.cells #[.int .i64 N, .int .i64 T, .int .i64 E, .slice a0 xs.length c0] 69)) w.heap.size #[.int .i64 N, .int .i64 T, .int .i64 E, .slice a0 xs.length c0] 69) := Bk.new' w _ _ rfl
  clear hv hu
  cases hp : prB N T E xs
  · rw [hp] at K1
    have HE : Hid (secA N T E xs ws at_ = none) := by show _ = _; unfold secA; rw [hp]; rfl
    clear K2
    go_enter Tryd.func44, Tryd.ntmps44
    go_wp2_with fail
    refine (K1 _ HA.out).mono ?_
    rintro e w1 ⟨rfl, g1⟩
    have HG1 : Hid (Old w w1) := Old.trans HA.out g1
    clear g1
    go_wp2_with fail
    go_ret3
    rw [HE.out]
    exact rowAns_old HG1.out (rowAns_nil _)
  · rw [hp] at K1
    have HE : Hid (secA N T E xs ws at_ = tRow ws at_ N) := by show _ = _; unfold secA; rw [hp]; rfl
    clear hp
    go_enter Tryd.func44, Tryd.ntmps44
    go_wp2_with fail
    refine (K1 _ HA.out).mono ?_
    rintro e w1 ⟨rfl, g1⟩
    have HG1 : Hid (Old w w1) := Old.trans HA.out g1
    have B1 : Hid (Bk w1 w.heap.size #[.int .i64 N, .int .i64 T, .int .i64 E, .slice a0 xs.length c0] 69) := BA.out.old g1
    have z0 := B1.out.c (i := 0) rfl
    clear g1
    go_wp2_with fail
    refine (K2 _ HG1.out).mono ?_
    rintro e w2 ⟨v', rfl, h2⟩
    have H2 : Hid (Old w w2 ∧ Own w2 w.heap.size v' (aL (tRow ws at_ N))) := h2
    clear h2
    go_wp2_with fail
    go_ret3
    rw [HE.out]
    exact ⟨_, rfl, H2.out.1, H2.out.2⟩
set_option maxRecDepth 100000 in
set_option maxHeartbeats 4000000 in
theorem spec_SecretFrom (N T E : Int) (xs ws : List Int) (v u : Value) (at_ : Int) (w : World) (hv : Row w v xs) (hf : Fit v) (hl : xs.length ≤ 9223372036854775807) (hx : ∀ x ∈ xs, -9223372036854775808 ≤ x ∧ x ≤ 9223372036854775807) (hu : Row w u ws) (hlu : ws.length ≤ 9223372036854775807) :
    Calls Tryd.prog 43 #[.agg #[.int .i64 N, .int .i64 T, .int .i64 E, v], u, .int .i64 at_] w fun e w' => RowAns (secA N T E xs ws at_) w e w' := by
  have K1 : ∀ W, Old w W → Calls Tryd.prog 39 #[.agg #[.int .i64 N, .int .i64 T, .int .i64 E, v]] W fun e w' => e = .returned (.bool (prB N T E xs)) ∧ Old W w' := fun W g => spec_goodParams N T E xs v W (hv.old g) hf hl hx
  have K0 : ∀ W, Old w W → Calls Tryd.prog 111 #[u, .int .i64 at_] W fun e w' => e = .returned (.bool (atB ws at_)) ∧ w' = W := fun W g => l7Words_at ws u at_ W (hu.old g) hlu
  obtain ⟨a0, c0, rfl⟩ := hv.slice
  obtain ⟨a1, c1, hu1⟩ := hu.slice
  have HA : Hid (Old w (w.alloc (.cells #[.int .i64 N, .int .i64 T, .int .i64 E, .slice a0 xs.length c0] 69))) := (Old.refl w).alloc _
  have BA : Hid (Bk (w.alloc (.cells #[.int .i64 N, .int .i64 T, .int .i64 E, .slice a0 xs.length c0] 69)) w.heap.size #[.int .i64 N, .int .i64 T, .int .i64 E, .slice a0 xs.length c0] 69) := Bk.new' w _ _ rfl
  have HU : Hid (Row w u ws) := hu
  clear hv hu
  cases hp : prB N T E xs
  · rw [hp] at K1
    have HE : Hid (secA N T E xs ws at_ = none) := by show _ = _; unfold secA; rw [hp]; rfl
    subst hu1
    clear K0 hp
    go_enter Tryd.func43, Tryd.ntmps43
    go_wp2_with fail
    refine (K1 _ HA.out).mono ?_
    rintro e w1 ⟨rfl, g1⟩
    have HG1 : Hid (Old w w1) := Old.trans HA.out g1
    have B1 : Hid (Bk w1 w.heap.size #[.int .i64 N, .int .i64 T, .int .i64 E, .slice a0 xs.length c0] 69) := BA.out.old g1
    clear g1
    go_wp2_with fail
    go_ret3
    rw [HE.out]
    exact rowAns_old HG1.out (rowAns_nil _)
  rw [hp] at K1
  cases h0 : atB ws at_
  · rw [h0] at K0
    have HE : Hid (secA N T E xs ws at_ = none) := by show _ = _; unfold secA; rw [hp]; simp [tRow, mayB_at, h0]
    subst hu1
    clear hp h0
    go_enter Tryd.func43, Tryd.ntmps43
    go_wp2_with fail
    refine (K1 _ HA.out).mono ?_
    rintro e w1 ⟨rfl, g1⟩
    have HG1 : Hid (Old w w1) := Old.trans HA.out g1
    have B1 : Hid (Bk w1 w.heap.size #[.int .i64 N, .int .i64 T, .int .i64 E, .slice a0 xs.length c0] 69) := BA.out.old g1
    clear g1
    go_wp2_with fail
    refine (K0 _ HG1.out).mono ?_
    rintro e w2 ⟨rfl, hw⟩
    obtain rfl := hw.symm
    clear hw
    go_wp2_with fail
    go_ret3
    rw [HE.out]
    exact rowAns_old HG1.out (rowAns_nil _)
  rw [h0] at K0
  have hN := (sp_ring (pr_sp hp)).1
  have h1 : inQ N 0 64 = true := by simp [inQ]; omega
  have HE : Hid (secA N T E xs ws at_ = drP (tD ws) at_.toNat N.toNat) := by show _ = _; unfold secA; rw [hp]; simp [tRow, mayB_at, h0, h1]
  obtain ⟨q1, q2, q3, q4⟩ := atB_yes h0
  obtain ⟨A, rfl⟩ := Int.eq_ofNat_of_zero_le q3
  obtain ⟨M, rfl⟩ := Int.eq_ofNat_of_zero_le (show 0 ≤ N by omega)
  have KS : Hid (∀ W, Old w W → Sp (W.alloc (.cells #[u, .int .i64 (A : Int), .bool true] 166)) W.heap.size u ws A true) := fun W g => Sp.new (HU.out.old g) (by omega)
  have KD : Hid (∀ q W, Sp W q u ws A true → Calls Tryd.prog 114 #[.pointer (some ⟨q, 0, none⟩), .int .i64 (M : Int)] W fun e w' => RwM (drP (tD ws) A M) ws W q u e w') := fun q W hs => ternaries_m (tD ws) ws q A M u W (by omega) hs (ternary_dm ws q u q1 q2)
  have KL := fun W => l8Source_any u a1 ws.length c1 hu1 (A : Int) W
  subst hu1
  clear hl q1 q2 q3 q4 h0 h1 hp hN hlu
  go_enter Tryd.func43, Tryd.ntmps43
  go_wp2_with fail
  refine (K1 _ HA.out).mono ?_
  rintro e w1 ⟨rfl, g1⟩
  have HG1 : Hid (Old w w1) := Old.trans HA.out g1
  have B1 : Hid (Bk w1 w.heap.size #[.int .i64 (M : Int), .int .i64 T, .int .i64 E, .slice a0 xs.length c0] 69) := BA.out.old g1
  clear g1
  go_wp2_with fail
  refine (K0 _ HG1.out).mono ?_
  rintro e w2 ⟨rfl, hw⟩
  obtain rfl := hw.symm
  clear hw
  go_wp2_with fail
  refine (KL _).mono ?_
  rintro e w2 ⟨rfl, hw⟩
  have HS2 : Hid (Sp w2 w1.heap.size (.slice a1 ws.length c1) ws A true) := by rw [hw]; exact KS.out w1 HG1.out
  have g2 : Old w1 w2 := by rw [hw]; exact (Old.refl w1).alloc _
  have HG2 : Hid (Old w w2) := Old.trans HG1.out g2
  have B2 : Hid (Bk w2 w.heap.size #[.int .i64 (M : Int), .int .i64 T, .int .i64 E, .slice a0 xs.length c0] 69) := B1.out.old g2
  have z0 := B2.out.c (i := 0) rfl
  have hlow : w.heap.size ≤ w1.heap.size := HG1.out.size
  have hs12 := g2.size
  clear hw g2 B1
  go_wp2_with fail
  refine (KD.out _ _ HS2.out).mono ?_
  rintro e w3 ⟨g, ⟨l, k, v', h1, rfl, o, s2⟩ | ⟨h1, ⟨b1, m, c, rfl⟩, k, s2⟩⟩
  · obtain ⟨a2, c2, rfl⟩ := (Own.row o).slice
    have HO : Hid (Own w3 w.heap.size (.slice a2 l.length c2) l) := o.low (by omega)
    have HG : Hid (Old w w3) := HG2.out.chg g (by omega)
    have HR : Hid (drP (tD ws) A M = some (l, k)) := h1
    have HQ : Hid (Sp w3 w1.heap.size (.slice a1 ws.length c1) ws k true) := s2
    clear g h1 o s2 z0
    go_wp2_with fail
    refine (outRow_yes ws _ k _ _ _ _ _ HQ.out).mono ?_
    rintro e w4 ⟨rfl, g3⟩
    have HG3 : Hid (Old w w4) := Old.trans HG.out g3
    have HO3 : Hid (Own w4 w.heap.size (.slice a2 l.length c2) l) := HO.out.old g3
    clear g3
    go_wp2_with fail
    go_ret3
    rw [HE.out]
    unfold RowAns
    show ∃ v', _ = Ending.returned (.tuple #[v', .int .i64 (aK (drP (tD ws) A M)), .bool (drP (tD ws) A M).isSome]) ∧ Old w w4 ∧ Own w4 w.heap.size v' (aL (drP (tD ws) A M))
    rw [HR.out]
    exact ⟨_, rfl, HG3.out, HO3.out⟩
  · have HG : Hid (Old w w3) := HG2.out.chg g (by omega)
    have HR : Hid (drP (tD ws) A M = none) := h1
    have HQ : Hid (Sp w3 w1.heap.size (.slice a1 ws.length c1) ws k false) := s2
    clear g h1 s2 z0
    go_wp2_with fail
    refine (outRow_no ws _ k _ _ _ _ _ HQ.out).mono ?_
    rintro e w4 ⟨rfl, g3⟩
    have HG3 : Hid (Old w w4) := Old.trans HG.out g3
    clear g3
    go_wp2_with fail
    go_ret3
    rw [HE.out]
    unfold RowAns
    show ∃ v', _ = Ending.returned (.tuple #[v', .int .i64 (aK (drP (tD ws) A M)), .bool (drP (tD ws) A M).isSome]) ∧ Old w w4 ∧ Own w4 w.heap.size v' (aL (drP (tD ws) A M))
    rw [HR.out]
    exact ⟨_, rfl, HG3.out, rfl, .inl ⟨rfl, rfl⟩⟩
end Go.Proofs.YtfgooclnohnkmaaDoor
