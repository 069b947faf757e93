/- Proved: contracts of the model's source of words: the next word (word), and a number below a modulus (uniform). -/
import Derived.Test.YtonbimgdkafnjaaCoin2
namespace Go.Proofs.Ytonbimgdkafnjaa
open Go.ChangeShapes Go.WideShapes Go.ChangeAt Go.RowKit
set_option linter.unusedVariables false
set_option linter.unusedSimpArgs false
/-- a source at block q: the words, the number of the next one, and whether there were enough -/
structure Sp (w : World) (q : Nat) (v : Value) (ws : List Int) (k : Nat) (ok : Bool) : Prop where
  le : k ≤ ws.length
  cells : w.heap[q]? = some (.cells #[v, .int .i64 k, .bool ok] 83 (0, 0))
  row : Row w v ws
  low : ∀ b o cap, v = .slice (some ⟨b, o, none⟩) ws.length cap → 0 < ws.length → b < q
theorem Sp.lt {w : World} {q k : Nat} {v : Value} {ws : List Int} {ok : Bool} (h : Sp w q v ws k ok) : q < w.heap.size := (Array.getElem?_eq_some_iff.1 h.cells).1
theorem row_set {w : World} {v : Value} {ws : List Int} (h : Row w v ws) (q j : Nat) (y : Value) (low : ∀ b o cap, v = .slice (some ⟨b, o, none⟩) ws.length cap → 0 < ws.length → b < q) : Row (w.setCell ⟨q, j, none⟩ y) v ws := by
  rcases h with h1 | ⟨b, o, cap, e, hb, h0, hc⟩
  · exact Or.inl h1
  · have := low b o cap e h0
    refine Or.inr ⟨b, o, cap, e, by rw [World.size_setCell]; exact hb, h0, fun i hi => ?_⟩
    rw [← hc i hi]
    exact World.cell?_of_block (heap_setCell_other w ⟨q, j, none⟩ b y (by show b ≠ q; omega))
theorem Sp.step {w : World} {q k : Nat} {v : Value} {ws : List Int} {ok : Bool} (h : Sp w q v ws k ok) (hk : k < ws.length) : Sp (w.setCell ⟨q, 1, none⟩ (.int .i64 ((k : Int) + 1))) q v ws (k + 1) ok := by
  obtain ⟨h1, h2, h3, h4⟩ := h
  exact ⟨by omega, by rw [heap_setCell_same _ _ _ _ _ _ h2]; rfl, row_set h3 q 1 _ h4, h4⟩
theorem Sp.dry {w : World} {q k : Nat} {v : Value} {ws : List Int} {ok : Bool} (h : Sp w q v ws k ok) : Sp (w.setCell ⟨q, 2, none⟩ (.bool false)) q v ws k false := by
  obtain ⟨h1, h2, h3, h4⟩ := h
  exact ⟨h1, by rw [heap_setCell_same _ _ _ _ _ _ h2]; rfl, row_set h3 q 2 _ h4, h4⟩
theorem Sp.c0 {w : World} {q k : Nat} {v : Value} {ws : List Int} {ok : Bool} (h : Sp w q v ws k ok) : w.cell? ⟨q, 0, none⟩ = some v := by rw [cell_of_row _ _ _ _ _ _ h.cells]; rfl
theorem Sp.c1 {w : World} {q k : Nat} {v : Value} {ws : List Int} {ok : Bool} (h : Sp w q v ws k ok) : w.cell? ⟨q, 1, none⟩ = some (.int .i64 k) := by rw [cell_of_row _ _ _ _ _ _ h.cells]; rfl
theorem Sp.c2 {w : World} {q k : Nat} {v : Value} {ws : List Int} {ok : Bool} (h : Sp w q v ws k ok) : w.cell? ⟨q, 2, none⟩ = some (.bool ok) := by rw [cell_of_row _ _ _ _ _ _ h.cells]; rfl
theorem Sp.fr {w : World} {q k : Nat} {v : Value} {ws : List Int} {ok : Bool} (h : Sp w q v ws k ok) (j : Nat) : w.frozen? ⟨q, j, none⟩ = false := frozen_of_row _ _ _ _ _ h.cells
/-- what word leaves -/
def WoP (ws : List Int) (w : World) (q : Nat) (v : Value) (k : Nat) (ok : Bool) (e : Ending) (w' : World) : Prop :=
  Chg w w' q (q + 1) ∧ ((k < ws.length ∧ e = .returned (.int .i64 (ws.getD k 0)) ∧ Sp w' q v ws (k + 1) ok) ∨ (k = ws.length ∧ e = .returned (.int .i64 0) ∧ Sp w' q v ws k false))
theorem Sp.drew {w : World} {q k : Nat} {v : Value} {ws : List Int} {ok : Bool} (h : Sp w q v ws k ok) (n : Nat) : Sp (w.drewN n) q v ws k ok :=
  ⟨h.le, h.cells, h.row.old ((Old.refl w).drewN n), h.low⟩
theorem chg_drew (w : World) (n lo hi : Nat) : Chg w (w.drewN n) lo hi := ((Old.refl w).drewN n).toChg lo hi
theorem Sp.word {w : World} {q k : Nat} {a : Option Addr} {cap : Nat} {ws : List Int} {ok : Bool} (h : Sp w q (.slice a ws.length cap) ws k ok) (j : Nat) (hj : j < ws.length) : ∃ b o, a = some ⟨b, o, none⟩ ∧ w.cell? ⟨b, o + j, none⟩ = some (.int .i64 (ws.getD j 0)) := by
  rcases h.row with ⟨a', cap', e, e2⟩ | ⟨b, o, cap', e, hb, h0, hc⟩
  · rw [e2] at hj; simp at hj
  · injection e with e1
    exact ⟨b, o, e1, hc j hj⟩
set_option maxRecDepth 100000 in
set_option maxHeartbeats 2000000 in
theorem word_some (ws : List Int) (q k : Nat) (v : Value) (ok : Bool) (w : World) (hl : ws.length ≤ 4000) (h : Sp w q v ws k ok) (h1 : k < ws.length) :
    Calls Try.prog 96 #[.pointer (some ⟨q, 0, none⟩)] w fun e w' => WoP ws w q v k ok e w' := by
  have c0 := h.c0
  have c1 := h.c1
  have HS : Hid (Sp w q v ws k ok) := h
  obtain ⟨a, cap, rfl⟩ := h.row.slice
  obtain ⟨b, o, rfl, _⟩ := h.word k h1
  have d1 : decide ((ws.length : Int) ≤ (k : Int)) = false := decide_eq_false (by omega)
  have HK : Hid (k < ws.length) := h1
  clear h
  go_enter Try.func96, Try.ntmps96
  go_wp2_with fail
  go_quiet (fail)
  have HS1 : Hid (Sp (w.drewN nq) q (.slice (some ⟨b, o, none⟩) ws.length cap) ws k ok) := HS.out.drew nq
  have HG1 : Hid (Chg w (w.drewN nq) q (q + 1)) := chg_drew w nq q (q + 1)
  clear c0 c1 HS
  generalize w.drewN nq = w1 at *
  have c0 := HS1.out.c0
  have c1 := HS1.out.c1
  have f1 := HS1.out.fr 1
  have s1 := HS1.out.step h1
  have c3 := s1.c0
  have c4 : (w1.setCell ⟨q, 1, none⟩ (.int .i64 ((k : Int) + 1))).cell? ⟨q, 1, none⟩ = some (.int .i64 ((k : Int) + 1)) := s1.c1
  have e4 : (k : Int) + 1 - 1 = k := by omega
  have HS2 : Hid (Sp (w1.setCell ⟨q, 1, none⟩ (.int .i64 ((k : Int) + 1))) q (.slice (some ⟨b, o, none⟩) ws.length cap) ws (k + 1) ok) := s1
  obtain ⟨b', o', hb', hc⟩ := s1.word k h1
  injection hb' with hb'
  injection hb' with hb1 hb2
  subst hb1 hb2
  obtain ⟨X, hX⟩ : ∃ X, ws.getD k 0 = X := ⟨_, rfl⟩
  rw [hX] at hc
  have HX : Hid (ws.getD k 0 = X) := hX
  clear s1 HS1 hX
  go_wp2_with fail
  go_quiet (fail)
  go_wp2_with fail
  go_ret
  unfold WoP
  rw [HX.out]
  exact ⟨(HG1.out.trans (chg_setCell _ q 1 _)).trans (chg_drew _ _ _ _), Or.inl ⟨HK.out, rfl, HS2.out.drew _⟩⟩
set_option maxRecDepth 100000 in
set_option maxHeartbeats 2000000 in
theorem word_none (ws : List Int) (q : Nat) (v : Value) (ok : Bool) (w : World) (hl : ws.length ≤ 4000) (h : Sp w q v ws ws.length ok) :
    Calls Try.prog 96 #[.pointer (some ⟨q, 0, none⟩)] w fun e w' => WoP ws w q v ws.length ok e w' := by
  have c0 := h.c0
  have c1 := h.c1
  have HS : Hid (Sp w q v ws ws.length ok) := h
  obtain ⟨a, cap, rfl⟩ := h.row.slice
  have d1 : decide ((ws.length : Int) ≤ (ws.length : Int)) = true := decide_eq_true (by omega)
  clear h
  go_enter Try.func96, Try.ntmps96
  go_wp2_with fail
  go_quiet (fail)
  have HS1 : Hid (Sp (w.drewN nq) q (.slice a ws.length cap) ws ws.length ok) := HS.out.drew nq
  have HG1 : Hid (Chg w (w.drewN nq) q (q + 1)) := chg_drew w nq q (q + 1)
  clear c0 c1 HS
  generalize w.drewN nq = w1 at *
  have c2 := HS1.out.c2
  have f2 := HS1.out.fr 2
  have HS2 : Hid (Sp (w1.setCell ⟨q, 2, none⟩ (.bool false)) q (.slice a ws.length cap) ws ws.length false) := HS1.out.dry
  clear HS1
  go_wp2_with fail
  go_ret
  unfold WoP
  exact ⟨HG1.out.trans (chg_setCell _ q 2 _), Or.inr ⟨rfl, rfl, HS2.out⟩⟩
theorem word_any (ws : List Int) (q k : Nat) (v : Value) (ok : Bool) (w : World) (hl : ws.length ≤ 4000) (h : Sp w q v ws k ok) :
    Calls Try.prog 96 #[.pointer (some ⟨q, 0, none⟩)] w fun e w' => WoP ws w q v k ok e w' := by
  rcases Nat.lt_or_ge k ws.length with h1 | h1
  · exact word_some ws q k v ok w hl h h1
  · obtain rfl : k = ws.length := Nat.le_antisymm h.le h1
    exact word_none ws q v ok w hl h
/-- the number of the next word, and whether there were enough, as they lie in memory -/
def restOf (W : World) (q n : Nat) : Nat := (match W.cell? ⟨q, 1, none⟩ with
  | some (.int _ k) => 2 * (n - k.toNat)
  | _ => 0) + (match W.cell? ⟨q, 2, none⟩ with
  | some (.bool true) => 1
  | _ => 0)
theorem Sp.rest {w : World} {q k : Nat} {v : Value} {ws : List Int} {ok : Bool} (h : Sp w q v ws k ok) : restOf w q ws.length = 2 * (ws.length - k) + (if ok then 1 else 0) := by
  unfold restOf
  rw [h.c1, h.c2]
  cases ok <;> simp
/-- what the model's draw leaves that stops at number J -/
def UnM (ws : List Int) (w : World) (q : Nat) (v : Value) (p J : Nat) (e : Ending) (w' : World) : Prop :=
  Chg w w' q (q + 1) ∧ ((J < ws.length ∧ e = .returned (.int .i64 (ws.getD J 0 % p)) ∧ Sp w' q v ws (J + 1) true) ∨ (J = ws.length ∧ e = .returned (.int .i64 0) ∧ Sp w' q v ws J false))
set_option maxRecDepth 100000 in
set_option maxHeartbeats 2000000 in
theorem uniform_m (ws : List Int) (q k p J : Nat) (v : Value) (w : World) (hw : wdB ws = true) (hl : ws.length ≤ 4000) (h : Sp w q v ws k true) (hp : 2 ≤ p ∧ p ≤ 268435456) (hJ : Stp ws (mulM p) k J) :
    Calls Try.prog 108 #[.pointer (some ⟨q, 0, none⟩), .int .i64 p] w fun e w' => UnM ws w q v p J e w' := by
  obtain ⟨p1, p2⟩ := hp
  obtain ⟨m, hm, m1⟩ : ∃ m, m = 4294967296 / p ∧ m ≤ 4294967296 := ⟨_, rfl, Nat.div_le_self _ _⟩
  have e1 : (4294967296 : Int).tdiv (p : Int) = (m : Int) := by rw [hm]; rfl
  have e1' : (4294967296 : Int) / (p : Int) = (m : Int) := by rw [hm]; rfl
  have e2 : (m : Int) * (p : Int) = (mulM p : Int) := by rw [hm, mulM]; rfl
  have p0 : ¬ p = 0 := by omega
  have HJ : Hid (Stp ws (mulM p) k J) := hJ
  have HP : Hid (Sp w q v ws k true) := h
  have HW : Hid (wdB ws = true) := hw
  have m2 : 0 < mulM p := mulM_pos p (by omega) p2
  have m3 : mulM p ≤ 4294967296 := mulM_le p
  obtain ⟨M, hM⟩ : ∃ M, M = mulM p := ⟨_, rfl⟩
  rw [← hM] at e2 HJ m2 m3
  clear hm hJ h hw hM
  go_enter Try.func108, Try.ntmps108
  go_wp2_with fail
  go_loopw [5] (fun x W => Hid (Chg w W q (q + 1) ∧ ((∃ i, Stp ws M i J ∧ Sp W q v ws i true) ∨ (J = ws.length ∧ Sp W q v ws J false)))) (fun x W => restOf W q ws.length)
  case atStart => exact ⟨⟨rfl, rfl, rfl, Nat.le_refl _, fun _ _ _ => rfl⟩, Or.inl ⟨k, HJ.out, HP.out⟩⟩
  case round =>
    clear HJ HP
    obtain ⟨g, ⟨i, hS, hPu⟩ | ⟨hJ, hPu⟩⟩ := hrel.out
    · clear hrel
      have HG : Hid (Chg w wr q (q + 1)) := g
      have HS : Hid (Stp ws M i J) := hS
      have HQ : Hid (Sp wr q v ws i true) := hPu
      have HR : Hid (restOf wr q ws.length = 2 * (ws.length - i) + 1) := hPu.rest
      have c2 := hPu.c2
      clear g hS hPu
      go_wp2_with fail
      refine (word_any ws q i v true wr hl HQ.out).mono ?_
      rintro e w2 ⟨g2, ⟨hi, rfl, s2⟩ | ⟨hi, rfl, s2⟩⟩
      · have HG2 : Hid (Chg w w2 q (q + 1)) := HG.out.trans g2
        have HS2 : Hid (Sp w2 q v ws (i + 1) true) := s2
        have HR2 : Hid (restOf w2 q ws.length = 2 * (ws.length - (i + 1)) + 1) := s2.rest
        have hI : i < ws.length := hi
        obtain ⟨x1, x2⟩ := wdB_get HW.out i hi
        clear g2 s2 HQ HG c2
        by_cases hx : (M : Int) ≤ ws.getD i 0
        · have d1 : decide (ws.getD i 0 < (M : Int)) = false := decide_eq_false (by omega)
          have HS3 : Hid (Stp ws M (i + 1) J) := HS.out.next hi hx
          generalize ws.getD i 0 = X at *
          go_wp2_with fail
          refine ⟨⟨HG2.out, Or.inl ⟨i + 1, HS3.out, HS2.out⟩⟩, ?_⟩
          rw [HR2.out, HR.out]
          omega
        · have d1 : decide (ws.getD i 0 < (M : Int)) = true := decide_eq_true (by omega)
          have HK : Hid (i = J) := HS.out.here (by omega)
          have e3 : (ws.getD i 0).tmod (p : Int) = ws.getD i 0 % (p : Int) := Int.tmod_eq_emod_of_nonneg x1
          obtain ⟨X, hX⟩ : ∃ X, ws.getD i 0 = X := ⟨_, rfl⟩
          rw [hX] at e3 d1 x1 x2 hx ⊢
          have HX : Hid (ws.getD i 0 = X) := hX
          clear hX
          go_wp2_with fail
          go_ret
          unfold UnM
          rw [← HK.out, HX.out]
          exact ⟨HG2.out, Or.inl ⟨hI, rfl, HS2.out⟩⟩
      · have HG2 : Hid (Chg w w2 q (q + 1)) := HG.out.trans g2
        have HS2 : Hid (Sp w2 q v ws i false) := s2
        have HK : Hid (i = J ∧ J = ws.length) := by have := HS.out.ge; have := HS.out.le; exact ⟨by omega, by omega⟩
        clear g2 s2 HQ HG c2 hi
        have d1 : decide ((0 : Int) < (M : Int)) = true := decide_eq_true (by omega)
        go_wp2_with fail
        go_ret
        unfold UnM
        rw [← HK.out.1]
        exact ⟨HG2.out, Or.inr ⟨HK.out.1.trans HK.out.2, rfl, HS2.out⟩⟩
    · have HG : Hid (Chg w wr q (q + 1)) := g
      have HQ : Hid (Sp wr q v ws J false) := hPu
      have c2 := hPu.c2
      have HK : Hid (J = ws.length) := hJ
      clear hrel g hPu hJ
      go_wp2_with fail
      go_ret
      unfold UnM
      exact ⟨HG.out, Or.inr ⟨HK.out, rfl, HQ.out⟩⟩
end Go.Proofs.Ytonbimgdkafnjaa
