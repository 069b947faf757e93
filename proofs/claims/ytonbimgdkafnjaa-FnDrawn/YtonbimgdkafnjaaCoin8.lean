/- Proved: contracts of the program's rows of draws: UniformRow, NoiseRow. -/
import Derived.Test.YtonbimgdkafnjaaCoin7
namespace Go.Proofs.Ytonbimgdkafnjaa
open Go.ChangeShapes Go.WideShapes Go.ChangeAt Go.RowKit
set_option linter.unusedVariables false
set_option linter.unusedSimpArgs false
/-- where a draw stops -/
def nx (ws : List Int) (M : Nat) : Nat → Nat → Nat
  | 0, k => k
  | f + 1, k => if ws.getD k 0 < (M : Int) then k else nx ws M f (k + 1)
theorem nx_stp (ws : List Int) (M : Nat) : ∀ f k, k + f = ws.length → Stp ws M k (nx ws M f k)
  | 0, k, h => ⟨Nat.le_refl _, by show k ≤ _; omega, fun i hi hj => by have : i < k := hj; omega, fun hk => by have : k < ws.length := hk; omega⟩
  | f + 1, k, h => by
    by_cases hx : ws.getD k 0 < (M : Int)
    · rw [nx, if_pos hx]
      exact ⟨Nat.le_refl _, by omega, fun i hi hj => by omega, fun _ => hx⟩
    · rw [nx, if_neg hx]
      obtain ⟨h1, h2, h3, h4⟩ := nx_stp ws M f (k + 1) (by omega)
      refine ⟨by omega, h2, fun i hi hj => ?_, h4⟩
      rcases Nat.eq_or_lt_of_le hi with e | e
      · subst e; omega
      · exact h3 i e hj
/-- a draw below p from number k on -/
def uD (ws : List Int) (p k : Nat) : Option (Int × Nat) :=
  if nx ws (mulM p) (ws.length - k) k < ws.length then some (ws.getD (nx ws (mulM p) (ws.length - k) k) 0 % (p : Int), nx ws (mulM p) (ws.length - k) k + 1) else none
/-- a draw of noise -/
def nD (ws : List Int) (b k : Nat) : Option (Int × Nat) := if k < ws.length then some (nz (ws.getD k 0).toNat b, k + 1) else none
theorem uniform_dp (ws : List Int) (c p : Nat) (hw : wdB ws = true) (hl : ws.length ≤ 4000) (hp : 2 ≤ p ∧ p ≤ 268435456) (k : Nat) (W : World) (h : Pu W c ws k) :
    Calls Try.prog 92 #[.pointer (some ⟨c + 1, 0, none⟩), .int .i64 p] W fun e w' => DrP (uD ws p) ws W c k e w' := by
  have hs := nx_stp ws (mulM p) (ws.length - k) k (by have := h.le; omega)
  refine (uniform_p ws c k p _ W hw hl h hp hs).mono ?_
  rintro e w' ⟨g, ⟨h1, h2, h3⟩ | ⟨h1, h2⟩⟩
  · exact ⟨g, Or.inl ⟨_, _, by unfold uD; rw [if_pos h1], h2, h3⟩⟩
  · exact ⟨g, Or.inr ⟨by unfold uD; rw [if_neg (by omega)], _, h2⟩⟩
theorem noise_dp (ws : List Int) (c b : Nat) (hw : wdB ws = true) (hl : ws.length ≤ 4000) (hb : 1 ≤ b ∧ b ≤ 16) (k : Nat) (W : World) (h : Pu W c ws k) :
    Calls Try.prog 55 #[.pointer (some ⟨c + 1, 0, none⟩), .int .i64 b] W fun e w' => DrP (nD ws b) ws W c k e w' := by
  refine (noise_p ws c k b W hw hl h hb).mono ?_
  rintro e w' ⟨g, ⟨h1, h2, h3⟩ | ⟨h1, y, h2⟩⟩
  · exact ⟨g, Or.inl ⟨_, _, by unfold nD; rw [if_pos h1], h2, h3⟩⟩
  · exact ⟨g, Or.inr ⟨by unfold nD; rw [if_neg (by omega)], _, h2⟩⟩
theorem uniform_dm (ws : List Int) (q p : Nat) (v : Value) (hw : wdB ws = true) (hl : ws.length ≤ 4000) (hp : 2 ≤ p ∧ p ≤ 268435456) (k : Nat) (W : World) (h : Sp W q v ws k true) :
    Calls Try.prog 108 #[.pointer (some ⟨q, 0, none⟩), .int .i64 p] W fun e w' => DrM (uD ws p) ws W q v k e w' := by
  have hs := nx_stp ws (mulM p) (ws.length - k) k (by have := h.le; omega)
  refine (uniform_m ws q k p _ v W hw hl h hp hs).mono ?_
  rintro e w' ⟨g, ⟨h1, h2, h3⟩ | ⟨h1, h2, h3⟩⟩
  · exact ⟨g, Or.inl ⟨_, _, by unfold uD; rw [if_pos h1], h2, h3⟩⟩
  · exact ⟨g, Or.inr ⟨by unfold uD; rw [if_neg (by omega)], ⟨_, h2⟩, _, h3⟩⟩
theorem noise_dm (ws : List Int) (q b : Nat) (v : Value) (hw : wdB ws = true) (hl : ws.length ≤ 4000) (hb : 1 ≤ b ∧ b ≤ 16) (k : Nat) (W : World) (h : Sp W q v ws k true) :
    Calls Try.prog 72 #[.pointer (some ⟨q, 0, none⟩), .int .i64 b] W fun e w' => DrM (nD ws b) ws W q v k e w' := by
  refine (noise_m ws q k b v W hw hl h hb).mono ?_
  rintro e w' ⟨g, ⟨h1, h2, h3⟩ | ⟨h1, h2, h3⟩⟩
  · exact ⟨g, Or.inl ⟨_, _, by unfold nD; rw [if_pos h1], h2, h3⟩⟩
  · exact ⟨g, Or.inr ⟨by unfold nD; rw [if_neg (by omega)], h2, _, h3⟩⟩
/-- the numbers of an answer -/
def aL : Option (List Int × Nat) → List Int
  | some (l, _) => l
  | none => []
/-- the next at of an answer -/
def aK : Option (List Int × Nat) → Int
  | some (_, k) => k
  | none => 0
/-- what a row's call leaves -/
def RowAns (A : Option (List Int × Nat)) (W : World) (e : Ending) (w' : World) : Prop :=
  ∃ v', e = .returned (.tuple #[v', .int .i64 (aK A), .bool A.isSome]) ∧ Old W w' ∧ Own w' W.heap.size v' (aL A)
theorem rowAns_nil (W : World) : RowAns none W (.returned (.tuple #[.slice none 0 0, .int .i64 0, .bool false])) W := ⟨_, rfl, Old.refl W, rfl, .inl ⟨rfl, rfl⟩⟩
/-- whether one may draw -/
def mayB (ws : List Int) (at_ n : Int) : Bool := wsB ws && inQ at_ 0 ws.length && inQ n 0 64
theorem mayB_yes {ws : List Int} {at_ n : Int} (h : mayB ws at_ n = true) : wdB ws = true ∧ ws.length ≤ 4000 ∧ (0 ≤ at_ ∧ at_ ≤ ws.length) ∧ (0 ≤ n ∧ n ≤ 64) := by
  simp only [mayB, wsB, inQ, Bool.and_eq_true, decide_eq_true_eq] at h
  exact ⟨h.1.1.2, h.1.1.1, h.1.2, h.2⟩
def uRow (ws : List Int) (at_ p n : Int) : Option (List Int × Nat) := if mayB ws at_ n && modB p then drP (uD ws p.toNat) at_.toNat n.toNat else none
def nRow (ws : List Int) (at_ b n : Int) : Option (List Int × Nat) := if mayB ws at_ n && inQ b 1 16 then drP (nD ws b.toNat) at_.toNat n.toNat else none
theorem rowAns_draw {R : Option (List Int × Nat)} {W w1 w2 : World} {e : Ending} (g : Old W w1) (h : RwP R w1 W.heap.size e w2) : RowAns R W e w2 := by
  obtain ⟨c, ⟨l, k, v', rfl, rfl, ho⟩ | ⟨rfl, rfl⟩⟩ := h
  · exact ⟨v', rfl, g.chg c (Nat.le_refl _), ho.low g.size⟩
  · exact ⟨_, rfl, g.chg c (Nat.le_refl _), rfl, .inl ⟨rfl, rfl⟩⟩
set_option maxRecDepth 100000 in
set_option maxHeartbeats 2000000 in
theorem impl_UniformRow (ws : List Int) (v : Value) (at_ p n : Int) (w : World) (h : Row w v ws) (hf : Fit7 v) (hl : ws.length ≤ 9223372036854775807) :
    Calls Try.prog 62 #[v, .int .i64 at_, .int .i64 p, .int .i64 n] w fun e w' => RowAns (uRow ws at_ p n) w e w' := by
  have K1 := fun W (e : W = w) => (by subst e; exact mayDraw_any ws v at_ n _ h hl : Calls Try.prog 51 #[v, .int .i64 at_, .int .i64 n] W fun e w' => e = .returned (.bool (mayB ws at_ n)) ∧ w' = W)
  have K2 := fun W => impl_isModulus p W
  obtain ⟨a, cap, rfl⟩ := h.slice
  unfold uRow
  cases hm : mayB ws at_ n
  · rw [hm] at K1
    clear h hf K2 hm
    go_enter Try.func62, Try.ntmps62
    go_wp2_with fail
    refine (K1 _ rfl).mono ?_
    rintro e w' ⟨rfl, hw⟩
    obtain rfl := hw.symm
    go_wp2_with fail
    go_ret3
    exact rowAns_nil _
  · rw [hm] at K1
    cases hp : modB p
    · rw [hp] at K2
      clear h hf hm hp
      go_enter Try.func62, Try.ntmps62
      go_wp2_with fail
      refine (K1 _ rfl).mono ?_
      rintro e w' ⟨rfl, hw⟩
      obtain rfl := hw.symm
      go_wp2_with fail
      refine (K2 _).mono ?_
      rintro e w' ⟨rfl, hw⟩
      obtain rfl := hw.symm
      go_wp2_with fail
      go_ret3
      exact rowAns_nil _
    · rw [hp] at K2
      obtain ⟨h1, h2, ⟨h3, h4⟩, h5, h6⟩ := mayB_yes hm
      obtain ⟨h7, h8⟩ := modB_yes hp
      obtain ⟨A, rfl⟩ := Int.eq_ofNat_of_zero_le h3
      obtain ⟨P, rfl⟩ := Int.eq_ofNat_of_zero_le (show 0 ≤ p by omega)
      obtain ⟨N, rfl⟩ := Int.eq_ofNat_of_zero_le h5
      have K3 : Hid (∀ W, W = w → Calls Try.prog 54 #[.slice a ws.length cap, .int .i64 A] W fun e w' => e = .returned (.pointer (some ⟨W.heap.size + 1, 0, none⟩)) ∧ Old W w' ∧ Pu w' W.heap.size ws A) := fun W e => by subst e; exact purseOf_any ws _ A _ h hf h2 (by omega)
      have K4 : Hid (∀ c W, Pu W c ws A → Calls Try.prog 53 #[.pointer (some ⟨c + 1, 0, none⟩), .func (.func 92) #[] #[], .int .i64 P, .int .i64 N] W fun e w' => RwP (drP (uD ws P) A N) W c e w') :=
        fun c W hP => drawRow_uniform (uD ws P) ws c A N P W (by omega) hP (uniform_dp ws c P h1 h2 (by omega))
      clear h hf hm hp h1 h2 h3 h4 h5 h6 h7 h8 hl
      go_enter Try.func62, Try.ntmps62
      go_wp2_with fail
      refine (K1 _ rfl).mono ?_
      rintro e w' ⟨rfl, hw⟩
      obtain rfl := hw.symm
      go_wp2_with fail
      refine (K2 _).mono ?_
      rintro e w' ⟨rfl, hw⟩
      obtain rfl := hw.symm
      go_wp2_with fail
      refine (K3.out _ rfl).mono ?_
      rintro e w1 ⟨rfl, g1, p1⟩
      have HG : Hid (Old w w1) := g1
      have HP : Hid (Pu w1 w.heap.size ws A) := p1
      clear g1 p1
      go_wp2_with fail
      refine (K4.out _ _ HP.out).mono ?_
      intro e w2 hr
      have hA := rowAns_draw HG.out hr
      obtain ⟨v', rfl, HA⟩ : ∃ v', e = .returned (.tuple #[v', .int .i64 (aK (drP (uD ws P) A N)), .bool (drP (uD ws P) A N).isSome]) ∧ Hid (Old w w2 ∧ Own w2 w.heap.size v' (aL (drP (uD ws P) A N))) := by
        obtain ⟨v', h1, h2⟩ := hA
        exact ⟨v', h1, h2⟩
      clear hr hA
      have HR : Hid ((if true && true then drP (uD ws (P : Int).toNat) (A : Int).toNat (N : Int).toNat else none) = drP (uD ws P) A N) := by show _ = _; simp
      go_wp2_with fail
      go_ret3
      exact ⟨v', rfl, HA.out.1, HA.out.2⟩
theorem isNoise7 (b : Int) (w : World) : Calls Try.prog 52 #[.int .i64 b] w fun e w' => e = .returned (.bool (inQ b 1 16)) ∧ w' = w := by
  unfold inQ
  cases h : decide (1 ≤ b)
  · go_enter Try.func52, Try.ntmps52
    go_wp2_with fail
    go_ret
    exact ⟨by simp, rfl⟩
  · go_enter Try.func52, Try.ntmps52
    go_wp2_with fail
    go_ret
    exact ⟨by simp, rfl⟩
set_option maxRecDepth 100000 in
set_option maxHeartbeats 2000000 in
theorem impl_NoiseRow (ws : List Int) (v : Value) (at_ p n : Int) (w : World) (h : Row w v ws) (hf : Fit7 v) (hl : ws.length ≤ 9223372036854775807) :
    Calls Try.prog 16 #[v, .int .i64 at_, .int .i64 p, .int .i64 n] w fun e w' => RowAns (nRow ws at_ p n) w e w' := by
  have K1 := fun W (e : W = w) => (by subst e; exact mayDraw_any ws v at_ n _ h hl : Calls Try.prog 51 #[v, .int .i64 at_, .int .i64 n] W fun e w' => e = .returned (.bool (mayB ws at_ n)) ∧ w' = W)
  have K2 := fun W => isNoise7 p W
  obtain ⟨a, cap, rfl⟩ := h.slice
  unfold nRow
  cases hm : mayB ws at_ n
  · rw [hm] at K1
    clear h hf K2 hm
    go_enter Try.func16, Try.ntmps16
    go_wp2_with fail
    refine (K1 _ rfl).mono ?_
    rintro e w' ⟨rfl, hw⟩
    obtain rfl := hw.symm
    go_wp2_with fail
    go_ret3
    exact rowAns_nil _
  · rw [hm] at K1
    cases hp : inQ p 1 16
    · rw [hp] at K2
      clear h hf hm hp
      go_enter Try.func16, Try.ntmps16
      go_wp2_with fail
      refine (K1 _ rfl).mono ?_
      rintro e w' ⟨rfl, hw⟩
      obtain rfl := hw.symm
      go_wp2_with fail
      refine (K2 _).mono ?_
      rintro e w' ⟨rfl, hw⟩
      obtain rfl := hw.symm
      go_wp2_with fail
      go_ret3
      exact rowAns_nil _
    · rw [hp] at K2
      obtain ⟨h1, h2, ⟨h3, h4⟩, h5, h6⟩ := mayB_yes hm
      have h78 : 1 ≤ p ∧ p ≤ 16 := by simpa [inQ] using hp
      obtain ⟨h7, h8⟩ := h78
      obtain ⟨A, rfl⟩ := Int.eq_ofNat_of_zero_le h3
      obtain ⟨P, rfl⟩ := Int.eq_ofNat_of_zero_le (show 0 ≤ p by omega)
      obtain ⟨N, rfl⟩ := Int.eq_ofNat_of_zero_le h5
      have K3 : Hid (∀ W, W = w → Calls Try.prog 54 #[.slice a ws.length cap, .int .i64 A] W fun e w' => e = .returned (.pointer (some ⟨W.heap.size + 1, 0, none⟩)) ∧ Old W w' ∧ Pu w' W.heap.size ws A) := fun W e => by subst e; exact purseOf_any ws _ A _ h hf h2 (by omega)
      have K4 : Hid (∀ c W, Pu W c ws A → Calls Try.prog 53 #[.pointer (some ⟨c + 1, 0, none⟩), .func (.func 55) #[] #[], .int .i64 P, .int .i64 N] W fun e w' => RwP (drP (nD ws P) A N) W c e w') :=
        fun c W hP => drawRow_noise (nD ws P) ws c A N P W (by omega) hP (noise_dp ws c P h1 h2 (by omega))
      clear h hf hm hp h1 h2 h3 h4 h5 h6 h7 h8 hl
      go_enter Try.func16, Try.ntmps16
      go_wp2_with fail
      refine (K1 _ rfl).mono ?_
      rintro e w' ⟨rfl, hw⟩
      obtain rfl := hw.symm
      go_wp2_with fail
      refine (K2 _).mono ?_
      rintro e w' ⟨rfl, hw⟩
      obtain rfl := hw.symm
      go_wp2_with fail
      refine (K3.out _ rfl).mono ?_
      rintro e w1 ⟨rfl, g1, p1⟩
      have HG : Hid (Old w w1) := g1
      have HP : Hid (Pu w1 w.heap.size ws A) := p1
      clear g1 p1
      go_wp2_with fail
      refine (K4.out _ _ HP.out).mono ?_
      intro e w2 hr
      have hA := rowAns_draw HG.out hr
      obtain ⟨v', rfl, HA⟩ : ∃ v', e = .returned (.tuple #[v', .int .i64 (aK (drP (nD ws P) A N)), .bool (drP (nD ws P) A N).isSome]) ∧ Hid (Old w w2 ∧ Own w2 w.heap.size v' (aL (drP (nD ws P) A N))) := by
        obtain ⟨v', h1, h2⟩ := hA
        exact ⟨v', h1, h2⟩
      clear hr hA
      have HR : Hid ((if true && true then drP (nD ws (P : Int).toNat) (A : Int).toNat (N : Int).toNat else none) = drP (nD ws P) A N) := by show _ = _; simp
      go_wp2_with fail
      go_ret3
      exact ⟨v', rfl, HA.out.1, HA.out.2⟩
end Go.Proofs.Ytonbimgdkafnjaa
