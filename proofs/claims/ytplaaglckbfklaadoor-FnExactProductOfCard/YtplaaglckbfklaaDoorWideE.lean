/- Proved: contracts of the model's nearest quotient, of words as whole numbers, of what is left by a word and of comparing, by what the numbers are worth. -/
import Derived.Test.YtplaaglckbfklaaDoorWideD
namespace Go.Proofs.YtplaaglckbfklaaDoor
open Go.ChangeShapes Go.WideShapes Go.ChangeAt Go.RowKit
open M2
set_option linter.unusedVariables false
set_option linter.unusedSimpArgs false
theorem nrm_pos {ys : List Nat} (hb : Nrm ys) (hl : ys ≠ []) : 0 < val ys := by
  rcases Nat.eq_zero_or_pos (val ys) with h | h
  · exact absurd (val_zero_of hb h) hl
  · exact h
theorem down_any (n : Bool) (xs ys : List Nat) (v u : Value) (w : World) (hv : Row w v (toI xs)) (hu : Row w u (toI ys)) (ha : Lim xs) (hb : Nrm ys) (hl : ys ≠ []) (la : xs.length ≤ 2000) (lb : ys.length ≤ 2000) :
    Calls Tryd.prog 78 #[.agg #[.bool n, v], u] w fun e w' => ∃ v1 v2, e = .returned (.tuple #[.agg #[.bool (ng (sv n xs / (val ys : Int))), v1], v2]) ∧ Old w w' ∧ Own w' w.heap.size v1 (toI (dg (sv n xs / (val ys : Int)))) ∧ Own w' w.heap.size v2 (toI (dig (sv n xs % (val ys : Int)).toNat)) := by
  have hD := nrm_pos hb hl
  cases n with
  | false =>
    obtain ⟨e1, e2, e3⟩ := down_pos_eq xs (val ys) hD
    rw [← e1, ← e2, ← e3]
    exact down_pos xs ys v u w hv hu ha hb hl la lb
  | true =>
    rcases Nat.eq_zero_or_pos (val xs % val ys) with h0 | h0
    · obtain ⟨e1, e2, e3⟩ := down_exact_eq xs (val ys) hD h0
      rw [← e1, ← e2, ← e3]
      exact down_exact xs ys v u w hv hu ha hb hl la lb h0
    · obtain ⟨e1, e2, e3⟩ := down_up_eq xs (val ys) hD h0
      rw [← e1, ← e2, ← e3]
      exact down_up xs ys v u w hv hu ha hb hl la lb h0
set_option maxHeartbeats 4000000 in
theorem modulo_any (n : Bool) (xs : List Nat) (m : Nat) (v : Value) (w : World) (hv : Row w v (toI xs)) (ha : Lim xs) (la : xs.length ≤ 2000) (hm : 1 ≤ m) (hm' : m ≤ 268435456) :
    Calls Tryd.prog 176 #[.agg #[.bool n, v], .int .i64 m] w fun e w' => e = .returned (.int .i64 (sv n xs % (m : Int))) ∧ Old w w' := by
  have HV : Hid (Row w v (toI xs)) := hv
  obtain ⟨a0, cap0, rfl⟩ := hv.sliceN
  clear hv
  have hlt : val xs % m < m := Nat.mod_lt _ (by omega)
  have e0 : sv false xs % (m : Int) = ((val xs % m : Nat) : Int) := by simp [sv]
  have e1 : 0 < val xs % m → sv true xs % (m : Int) = (m : Int) - ((val xs % m : Nat) : Int) := fun h => by
    have := (down_up_eq xs m (by omega) h).2.2
    have h2 := Int.emod_nonneg (sv true xs) (show (m : Int) ≠ 0 by omega)
    omega
  have e2 : val xs % m = 0 → sv true xs % (m : Int) = ((val xs % m : Nat) : Int) := fun h => by
    have := (down_exact_eq xs m (by omega) h).2.2
    have h2 := Int.emod_nonneg (sv true xs) (show (m : Int) ≠ 0 by omega)
    omega
  have c := fun W (h : Row W (.slice a0 xs.length cap0) (toI xs)) => word_any xs m _ W h ha (by omega) hm hm'
  generalize val xs % m = r at *
  have key : ∀ (z : Int), (n = false → z = (r : Int)) → (n = true → 0 < r → z = (m : Int) - (r : Int)) → (n = true → r = 0 → z = (r : Int)) →
      Calls Tryd.prog 176 #[.agg #[.bool n, .slice a0 xs.length cap0], .int .i64 m] w fun e w' => e = .returned (.int .i64 z) ∧ Old w w' := by
    intro z h1 h2 h3
    clear e0 e1 e2
    cases n with
    | false =>
      have := h1 rfl
      subst this
      clear h1 h2 h3
      go_enter Tryd.func176, Tryd.ntmps176
      go_wp2_with fail
      refine (c _ (HV.out.old ((Old.refl w).alloc _))).mono ?_
      rintro e w2 ⟨rfl, g2⟩
      have q0 : w2.cell? ⟨w.heap.size, 0, none⟩ = some (Value.bool false) := (g2.cell (p := ⟨w.heap.size, 0, none⟩) (by simp)).trans (cell_at _ _ _ _ _ rfl)
      have HG : Hid (Old w w2) := Old.trans ((Old.refl w).alloc _) g2
      clear g2
      go_wp2_with fail
      go_ret
      exact ⟨rfl, HG.out⟩
    | true =>
      rcases Nat.eq_zero_or_pos r with h0 | h0
      · have := h3 rfl h0
        subst this
        have d0 : decide (0 < r) = false := decide_eq_false (by omega)
        clear h1 h2 h3 h0
        go_enter Tryd.func176, Tryd.ntmps176
        go_wp2_with fail
        refine (c _ (HV.out.old ((Old.refl w).alloc _))).mono ?_
        rintro e w2 ⟨rfl, g2⟩
        have q0 : w2.cell? ⟨w.heap.size, 0, none⟩ = some (Value.bool true) := (g2.cell (p := ⟨w.heap.size, 0, none⟩) (by simp)).trans (cell_at _ _ _ _ _ rfl)
        have HG : Hid (Old w w2) := Old.trans ((Old.refl w).alloc _) g2
        clear g2
        go_wp2_with fail
        go_ret
        exact ⟨rfl, HG.out⟩
      · have := h2 rfl h0
        subst this
        have d0 : decide (0 < r) = true := decide_eq_true h0
        clear h1 h2 h3
        go_enter Tryd.func176, Tryd.ntmps176
        go_wp2_with fail
        refine (c _ (HV.out.old ((Old.refl w).alloc _))).mono ?_
        rintro e w2 ⟨rfl, g2⟩
        have q0 : w2.cell? ⟨w.heap.size, 0, none⟩ = some (Value.bool true) := (g2.cell (p := ⟨w.heap.size, 0, none⟩) (by simp)).trans (cell_at _ _ _ _ _ rfl)
        have HG : Hid (Old w w2) := Old.trans ((Old.refl w).alloc _) g2
        clear g2
        go_wp2_with fail
        go_ret
        exact ⟨rfl, HG.out⟩
  refine key _ (fun h => ?_) (fun h h0 => ?_) (fun h h0 => ?_)
  · subst h; exact e0
  · subst h; exact e1 h0
  · subst h; exact e2 h0
/-- how two whole numbers lie, as -1, 0, 1 -/
def cmpI (x y : Int) : Int := if x < y then -1 else if y < x then 1 else 0
end Go.Proofs.YtplaaglckbfklaaDoor
