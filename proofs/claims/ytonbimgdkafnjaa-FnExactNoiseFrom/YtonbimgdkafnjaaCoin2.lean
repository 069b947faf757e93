/- Proved: contracts of the program's draw of a number below a modulus: words are passed over up to the first below the last multiple. -/
import Derived.Test.YtonbimgdkafnjaaCoin1
namespace Go.Proofs.Ytonbimgdkafnjaa
open Go.ChangeShapes Go.WideShapes Go.ChangeAt Go.RowKit
set_option linter.unusedVariables false
set_option linter.unusedSimpArgs false
/-- the last multiple -/
def mulM (p : Nat) : Nat := 4294967296 / p * p
theorem mulM_sub (p : Nat) : 4294967296 - 4294967296 % p = mulM p := by
  have := Nat.div_add_mod 4294967296 p
  unfold mulM
  rw [Nat.mul_comm]
  omega
theorem mulM_le (p : Nat) : mulM p ≤ 4294967296 := by rw [← mulM_sub]; omega
theorem mulM_pos (p : Nat) (h0 : 1 ≤ p) (h : p ≤ 268435456) : 0 < mulM p := by
  rw [← mulM_sub]
  have := Nat.mod_lt 4294967296 (show 0 < p by omega)
  omega
/-- number J is where the draw from number k on stops -/
structure Stp (ws : List Int) (M : Nat) (k J : Nat) : Prop where
  ge : k ≤ J
  le : J ≤ ws.length
  no : ∀ i, k ≤ i → i < J → (M : Int) ≤ ws.getD i 0
  yes : J < ws.length → ws.getD J 0 < (M : Int)
theorem Stp.next {ws : List Int} {M k J : Nat} (h : Stp ws M k J) (hk : k < ws.length) (hx : (M : Int) ≤ ws.getD k 0) : Stp ws M (k + 1) J := by
  obtain ⟨h1, h2, h3, h4⟩ := h
  have : k ≠ J := fun e => by subst e; have := h4 hk; omega
  exact ⟨by omega, h2, fun i hi hj => h3 i (by omega) hj, h4⟩
theorem Stp.here {ws : List Int} {M k J : Nat} (h : Stp ws M k J) (hx : ws.getD k 0 < (M : Int)) : k = J := by
  obtain ⟨h1, h2, h3, h4⟩ := h
  rcases Nat.lt_or_ge k J with h5 | h5
  · have := h3 k (Nat.le_refl _) h5; omega
  · omega
theorem Stp.is (ws : List Int) (M : Nat) : ∀ n k, k + n = ws.length → ∃ J, Stp ws M k J
  | 0, k, h => ⟨k, Nat.le_refl _, by omega, fun i hi hj => by omega, fun hk => by omega⟩
  | n + 1, k, h => by
    by_cases hx : ws.getD k 0 < (M : Int)
    · exact ⟨k, Nat.le_refl _, by omega, fun i hi hj => by omega, fun _ => hx⟩
    · obtain ⟨J, h1, h2, h3, h4⟩ := Stp.is ws M n (k + 1) (by omega)
      refine ⟨J, by omega, h2, fun i hi hj => ?_, h4⟩
      rcases Nat.eq_or_lt_of_le hi with e | e
      · subst e; omega
      · exact h3 i e hj
/-- the number that a purse bears -/
def nextOf (W : World) (c : Nat) : Nat := match W.cell? ⟨c + 1, 1, none⟩ with
  | some (.int _ n) => n.toNat
  | _ => 0
theorem Pu.next {w : World} {c k : Nat} {ws : List Int} (h : Pu w c ws k) : nextOf w c = k := by
  have : w.cell? ⟨c + 1, 1, none⟩ = some (.int .i64 k) := by rw [cell_of_row _ _ _ _ _ _ h.cells]; rfl
  simp [nextOf, this]
def okN : Value → Nat
  | .bool true => 1
  | _ => 0
theorem Stp.le' {ws : List Int} {M k J : Nat} (h : Stp ws M k J) : J ≤ ws.length := h.le
/-- what take leaves -/
theorem take_any (ws : List Int) (c k : Nat) (w : World) (h : Pu w c ws k) (hl : ws.length ≤ 4000) :
    Calls Try.prog 89 #[.pointer (some ⟨c + 1, 0, none⟩)] w fun e w' => Chg w w' c (c + 2) ∧ Hid ((k < ws.length ∧ e = .returned (.tuple #[.int .i64 (ws.getD k 0), .bool true]) ∧ Pu w' c ws (k + 1)) ∨ (k = ws.length ∧ e = .returned (.tuple #[.int .i64 0, .bool false]) ∧ Pu w' c ws k)) := by
  rcases Nat.lt_or_ge k ws.length with h1 | h1
  · exact (take_some ws c k w h h1 hl).mono fun e w' ⟨h2, h3, h4⟩ => ⟨h3, Or.inl ⟨h1, h2, h4⟩⟩
  · obtain rfl : k = ws.length := Nat.le_antisymm h.le h1
    exact (take_none ws c w h).mono fun e w' ⟨h2, h3⟩ => by
      subst h3
      exact ⟨⟨rfl, rfl, rfl, Nat.le_refl _, fun _ _ _ => rfl⟩, Or.inr ⟨rfl, h2, h⟩⟩
/-- the loop's state: the word at hand is number i, or the words have run out -/
def UnL (ws : List Int) (w : World) (c M J : Nat) (x y : Value) (W : World) : Prop :=
  Chg w W c (c + 2) ∧ ((∃ i, i < ws.length ∧ Stp ws M i J ∧ x = .int .i64 (ws.getD i 0) ∧ y = .bool true ∧ Pu W c ws (i + 1)) ∨ (J = ws.length ∧ x = .int .i64 0 ∧ y = .bool false))
/-- what a draw leaves that stops at number J -/
def UnP (ws : List Int) (w : World) (c p J : Nat) (e : Ending) (w' : World) : Prop :=
  Chg w w' c (c + 2) ∧ ((J < ws.length ∧ e = .returned (.tuple #[.int .i64 (ws.getD J 0 % p), .bool true]) ∧ Pu w' c ws (J + 1)) ∨ (J = ws.length ∧ e = .returned (.tuple #[.int .i64 0, .bool false])))
set_option maxRecDepth 100000 in
set_option maxHeartbeats 2000000 in
theorem uniform_p (ws : List Int) (c k p J : Nat) (w : World) (hw : wdB ws = true) (hl : ws.length ≤ 4000) (h : Pu w c ws k) (hp : 2 ≤ p ∧ p ≤ 268435456) (hJ : Stp ws (mulM p) k J) :
    Calls Try.prog 92 #[.pointer (some ⟨c + 1, 0, none⟩), .int .i64 p] w fun e w' => UnP ws w c p J e w' := by
  obtain ⟨p1, p2⟩ := hp
  obtain ⟨m, hm, m1⟩ : ∃ m, m = 4294967296 % p ∧ m < p := ⟨_, rfl, Nat.mod_lt _ (by omega)⟩
  have e1 : (4294967296 : Int).tmod (p : Int) = (m : Int) := by rw [hm]; rfl
  have e1' : (4294967296 : Int) % (p : Int) = (m : Int) := by rw [hm]; rfl
  have e2 : (4294967296 : Int) - (m : Int) = (mulM p : Int) := by rw [← mulM_sub, ← hm]; omega
  have p0 : ¬ p = 0 := by omega
  have HJ : Hid (Stp ws (mulM p) k J) := hJ
  have HP : Hid (Pu w c ws k) := h
  have HW : Hid (wdB ws = true) := hw
  have HM : Hid (mulM p ≤ 4294967296) := mulM_le p
  have m2 : 0 < mulM p := mulM_pos p (by omega) p2
  obtain ⟨M, hM⟩ : ∃ M, M = mulM p := ⟨_, rfl⟩
  rw [← hM] at e2 HJ HM m2
  have m3 : M ≤ 4294967296 := HM.out
  have kl : k ≤ ws.length := h.le
  clear hm hJ h hw hM HM
  go_enter Try.func92, Try.ntmps92
  go_wp2_with fail
  refine (take_any ws c k w HP.out hl).mono ?_
  rintro e w1 ⟨g1, t1⟩
  obtain ⟨x0, y0, rfl, HU⟩ : ∃ x0 y0, e = .returned (.tuple #[x0, y0]) ∧ Hid (UnL ws w c M J x0 y0 w1) := by
    rcases t1.out with ⟨h1, h2, h3⟩ | ⟨h1, h2, h3⟩
    · exact ⟨_, _, h2, g1, Or.inl ⟨k, h1, HJ.out, rfl, rfl, h3⟩⟩
    · exact ⟨_, _, h2, g1, Or.inr ⟨by have := HJ.out.ge; have := HJ.out.le; omega, rfl, rfl⟩⟩
  clear t1 g1 HP HJ kl
  go_wp2_with fail
  go_loopw [7, 8] (fun x y W => Hid (UnL ws w c M J x y W)) (fun x y W => 2 * (ws.length - nextOf W c) + okN y)
  case atStart => exact HU
  case round =>
    clear HU
    obtain ⟨g, ⟨i, hi, hS, rfl, rfl, hPu⟩ | ⟨hJ, rfl, rfl⟩⟩ := hrel.out
    · clear hrel
      have HG : Hid (Chg w wr c (c + 2)) := g
      have HS : Hid (Stp ws M i J) := hS
      have HQ : Hid (Pu wr c ws (i + 1)) := hPu
      have hX := wdB_get HW.out i hi
      obtain ⟨x1, x2⟩ := hX
      clear g hS hPu
      by_cases hx : (M : Int) ≤ ws.getD i 0
      · have d1 : decide ((M : Int) ≤ ws.getD i 0) = true := decide_eq_true hx
        have HS1 : Hid (Stp ws M (i + 1) J) := HS.out.next hi hx
        have HNx : Hid (nextOf wr c = i + 1) := HQ.out.next
        clear HS
        generalize ws.getD i 0 = X at *
        go_wp2_with fail
        refine (take_any ws c (i + 1) wr HQ.out hl).mono ?_
        rintro e w2 ⟨g2, t2⟩
        obtain ⟨x3, y3, rfl, HU, HD⟩ : ∃ x0 y0, e = .returned (.tuple #[x0, y0]) ∧ Hid (UnL ws w c M J x0 y0 w2) ∧ Hid (2 * (ws.length - nextOf w2 c) + okN y0 < 2 * (ws.length - nextOf wr c) + 1) := by
          rcases t2.out with ⟨h1, h2, h3⟩ | ⟨h1, h2, h3⟩
          · refine ⟨_, _, h2, ⟨HG.out.trans g2, Or.inl ⟨i + 1, h1, HS1.out, rfl, rfl, h3⟩⟩, ?_⟩
            show _ < _
            rw [HNx.out, h3.next]
            simp [okN]; omega
          · refine ⟨_, _, h2, ⟨HG.out.trans g2, Or.inr ⟨by have := HS1.out.ge; have := HS1.out.le; omega, rfl, rfl⟩⟩, ?_⟩
            show _ < _
            rw [HNx.out, h3.next]
            simp [okN]
        clear t2 g2
        go_wp2_with fail
        exact ⟨HU, HD.out⟩
      · have d1 : decide ((M : Int) ≤ ws.getD i 0) = false := decide_eq_false hx
        obtain rfl : i = J := HS.out.here (by omega)
        have e3 : (ws.getD i 0).tmod (p : Int) = ws.getD i 0 % (p : Int) := Int.tmod_eq_emod_of_nonneg x1
        obtain ⟨X, hX⟩ : ∃ X, ws.getD i 0 = X := ⟨_, rfl⟩
        rw [hX] at e3 d1 x1 x2 hx ⊢
        have HX : Hid (ws.getD i 0 = X) := hX
        clear hX
        go_wp2_with fail
        go_ret2
        unfold UnP
        rw [HX.out]
        exact ⟨HG.out, Or.inl ⟨hi, rfl, HQ.out⟩⟩
    · have HG : Hid (Chg w wr c (c + 2)) := g
      clear hrel g
      have HJ' : Hid (J = ws.length) := hJ
      clear hJ
      go_wp2_with fail
      go_ret2
      unfold UnP
      exact ⟨HG.out, Or.inr ⟨HJ'.out, rfl⟩⟩
end Go.Proofs.Ytonbimgdkafnjaa
