/- Proved: splitting again and again gives a polynomial's values at the points; no program in sight but its lists. -/
import Derived.Test.YtfgooclnohnkmaaGreatDoorSplit
import Derived.Test.YtfgooclnohnkmaaGreatDoorSpFwd
namespace Go.Proofs.YtfgooclnohnkmaaGreatDoor
set_option linter.unusedVariables false
/-- the same but for multiples of P -/
def Cg (P a b : Int) : Prop := ∃ c : Int, a = b + P * c
theorem Cg.refl (P a : Int) : Cg P a a := ⟨0, by simp⟩
theorem Cg.symm {P a b : Int} (h : Cg P a b) : Cg P b a := by
  obtain ⟨c, h⟩ := h
  exact ⟨-c, by rw [h]; grind⟩
theorem Cg.trans {P a b c : Int} (h : Cg P a b) (k : Cg P b c) : Cg P a c := by
  obtain ⟨x, h⟩ := h
  obtain ⟨y, k⟩ := k
  exact ⟨x + y, by rw [h, k]; grind⟩
theorem Cg.add {P a b c d : Int} (h : Cg P a b) (k : Cg P c d) : Cg P (a + c) (b + d) := by
  obtain ⟨x, h⟩ := h
  obtain ⟨y, k⟩ := k
  exact ⟨x + y, by rw [h, k]; grind⟩
theorem Cg.mul {P a b c d : Int} (h : Cg P a b) (k : Cg P c d) : Cg P (a * c) (b * d) := by
  obtain ⟨x, h⟩ := h
  obtain ⟨y, k⟩ := k
  exact ⟨x * d + b * y + P * x * y, by rw [h, k]; grind⟩
theorem Cg.neg {P a b : Int} (h : Cg P a b) : Cg P (-a) (-b) := by
  obtain ⟨x, h⟩ := h
  exact ⟨-x, by rw [h]; grind⟩
theorem Cg.pow {P a b : Int} (h : Cg P a b) : ∀ n : Nat, Cg P (a ^ n) (b ^ n)
  | 0 => by simp; exact Cg.refl _ _
  | n + 1 => by rw [Int.pow_succ, Int.pow_succ]; exact (Cg.pow h n).mul h
theorem Cg.mod (P a : Nat) : Cg P ((a % P : Nat) : Int) (a : Int) := by
  refine ⟨-((a / P : Nat) : Int), ?_⟩
  have := Nat.div_add_mod a P
  have e : ((a : Nat) : Int) = (P : Int) * ((a / P : Nat) : Int) + ((a % P : Nat) : Int) := by exact_mod_cast this.symm
  rw [e]
  grind
theorem Cg.eq_of_lt {P a b : Nat} (h : Cg P a b) (ha : a < P) (hb : b < P) : a = b := by
  obtain ⟨c, h⟩ := h
  have : (a : Int) % (P : Int) = (b : Int) % (P : Int) := by rw [h]; exact Int.add_mul_emod_self_left _ _ _
  rw [Int.emod_eq_of_lt (by omega) (by omega), Int.emod_eq_of_lt (by omega) (by omega)] at this
  omega
/-- the value at x of the first h numbers -/
def evI (f : Nat → Int) (x : Int) : Nat → Int
  | 0 => 0
  | h + 1 => evI f x h + f h * x ^ h
theorem evI_add (f : Nat → Int) (x : Int) (h : Nat) : ∀ k, evI f x (h + k) = evI f x h + x ^ h * evI (fun i => f (h + i)) x k
  | 0 => by simp [evI]
  | k + 1 => by
    rw [← Nat.add_assoc, evI, evI_add f x h k, evI, Int.pow_add]
    grind
theorem evI_cg {P : Int} {f g : Nat → Int} (x : Int) : ∀ h, (∀ i, i < h → Cg P (f i) (g i)) → Cg P (evI f x h) (evI g x h)
  | 0, _ => Cg.refl _ _
  | h + 1, H => (evI_cg x h (fun i hi => H i (by omega))).add ((H h (by omega)).mul (Cg.refl _ _))
theorem evI_lin (f g : Nat → Int) (c x : Int) : ∀ h, evI (fun i => f i + c * g i) x h = evI f x h + c * evI g x h
  | 0 => by simp [evI]
  | h + 1 => by rw [evI, evI_lin f g c x h, evI, evI]; grind
theorem evI_x {P : Int} (f : Nat → Int) {x y : Int} (hx : Cg P x y) : ∀ h, Cg P (evI f x h) (evI f y h)
  | 0 => Cg.refl _ _
  | h + 1 => (evI_x f hx h).add ((Cg.refl _ _).mul (hx.pow h))
/-- Horner's rule gives the value -/
theorem hor_ev (P x : Nat) (xs : List Nat) (N : Nat) : ∀ c, c ≤ N → Cg P (horS P x xs N c) (evI (fun i => ((xs.getD (N - c + i) 0 : Nat) : Int)) x c)
  | 0, _ => by simp [horS, evI]; exact Cg.refl _ _
  | c + 1, hc => by
    have ih := hor_ev P x xs N c (by omega)
    rw [horS]
    refine (Cg.mod P _).trans ?_
    have e : evI (fun i => ((xs.getD (N - (c + 1) + i) 0 : Nat) : Int)) x (c + 1) = ((xs.getD (N - 1 - c) 0 : Nat) : Int) + x * evI (fun i => ((xs.getD (N - c + i) 0 : Nat) : Int)) x c := by
      have h1 := evI_add (fun i => ((xs.getD (N - (c + 1) + i) 0 : Nat) : Int)) x 1 c
      rw [Nat.add_comm 1 c] at h1
      rw [h1]
      simp only [evI, Int.pow_zero, Int.pow_one]
      have e2 : (fun i => ((xs.getD (N - (c + 1) + (1 + i)) 0 : Nat) : Int)) = (fun i => ((xs.getD (N - c + i) 0 : Nat) : Int)) := by
        funext i
        rw [show N - (c + 1) + (1 + i) = N - c + i by omega]
      rw [e2, show N - (c + 1) + 0 = N - 1 - c by omega]
      grind
    rw [e]
    push_cast
    have h2 := (Cg.refl P ((xs.getD (N - 1 - c) 0 : Nat) : Int)).add ((Cg.refl (P : Int) (x : Int)).mul ih)
    refine Cg.trans ?_ h2
    exact ⟨0, by push_cast; grind⟩
theorem gset (l : List Nat) (i v m : Nat) (hi : i < l.length) : (l.set i v).getD m 0 = if m = i then v else l.getD m 0 := by
  by_cases h : m = i
  · subst h
    simp [List.getD, hi]
  · rw [if_neg h]
    simp only [List.getD]
    rw [List.getElem?_set_ne (by omega)]
/-- what a split leaves at each place -/
theorem sp_get (P w0 off hh : Nat) (fs : List Nat) (hl : off + 2 * hh ≤ fs.length) : ∀ i, i ≤ hh → ∀ m, (spS P w0 off hh fs i).getD m 0 =
    if off ≤ m ∧ m < off + i then (fs.getD m 0 + w0 * fs.getD (m + hh) 0 % P) % P else if off + hh ≤ m ∧ m < off + hh + i then (fs.getD (m - hh) 0 + P - w0 * fs.getD m 0 % P) % P else fs.getD m 0
  | 0, _, m => by
    rw [if_neg (by omega), if_neg (by omega)]
    rfl
  | i + 1, hi, m => by
    have ih := sp_get P w0 off hh fs hl i (by omega)
    have hln := spS_len P w0 off hh fs i
    have e1 : (spS P w0 off hh fs i).getD (off + i) 0 = fs.getD (off + i) 0 := by rw [ih, if_neg (by omega), if_neg (by omega)]
    have e2 : (spS P w0 off hh fs i).getD (off + hh + i) 0 = fs.getD (off + hh + i) 0 := by rw [ih, if_neg (by omega), if_neg (by omega)]
    rw [spS, gset _ _ _ _ (by rw [List.length_set, hln]; omega), gset _ _ _ _ (by rw [hln]; omega), e1, e2, ih m]
    by_cases h1 : m = off + hh + i
    · subst h1
      rw [if_pos rfl, if_neg (by omega), if_pos (by omega), show off + hh + i - hh = off + i by omega]
    · rw [if_neg h1]
      by_cases h2 : m = off + i
      · subst h2
        rw [if_pos rfl, if_pos (by omega), show off + i + hh = off + hh + i by omega]
      · rw [if_neg h2]
        by_cases h3 : off ≤ m ∧ m < off + i
        · rw [if_pos h3, if_pos (by omega)]
        · rw [if_neg h3]
          by_cases h4 : off + hh ≤ m ∧ m < off + hh + i
          · rw [if_pos h4, if_neg (by omega), if_pos (by omega)]
          · rw [if_neg h4, if_neg (by omega), if_neg (by omega)]
end Go.Proofs.YtfgooclnohnkmaaGreatDoor
