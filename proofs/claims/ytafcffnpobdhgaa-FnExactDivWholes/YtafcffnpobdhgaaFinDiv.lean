/- Proved: the statement on DivWholes at any two whole numbers. -/
import Derived.Test.YtafcffnpobdhgaaLawDiv
import Derived.Test.YtafcffnpobdhgaaKWhole
import Derived.Test.YtafcffnpobdhgaaExpDiv
namespace Go.Proofs.Ytafcffnpobdhgaa
open Go.ChangeShapes Go.WideShapes Go.ChangeAt Go.RowKit
open M2
set_option linter.unusedVariables false
set_option linter.unusedSimpArgs false
theorem impl_div (n m : Bool) (xs ys : List Int) (v u : Value) (w : World) (hv : Row w v xs) (hu : Row w u ys) (la : xs.length ≤ 1048576) (lb : ys.length ≤ 1048576) (R : Bool × List Nat × List Nat × Bool) (hR : divW n m xs ys = R) :
    Calls Try.prog 17 #[.agg #[.bool n, v], .agg #[.bool m, u]] w fun e w' => ∃ v1 v2, e = .returned (.tuple #[.agg #[.bool R.1, v1], .agg #[.bool false, v2], .bool R.2.2.2]) ∧ Old w w' ∧ Own w' w.heap.size v1 (toI R.2.1) ∧ Own w' w.heap.size v2 (toI R.2.2.1) ∧ ∀ b, v1.ownBlock = some b → v2.ownBlock = some b → False := by
  unfold divW at hR
  by_cases hd : Dv n m xs ys
  · rw [if_pos hd] at hR
    subst hR
    obtain ⟨⟨hga, hgb⟩, rfl, hy0⟩ := hd
    exact impl_div_good n xs ys v u w hv hu hga hgb (by omega)
  · rw [if_neg hd] at hR
    subst hR
    exact impl_div_bad n m xs ys v u w hv hu la lb hd
theorem len_div (n m : Bool) (xs ys : List Int) : (divW n m xs ys).2.1.length ≤ 40 ∧ (divW n m xs ys).2.2.1.length ≤ 40 := by
  unfold divW
  split
  · rename_i hd
    obtain ⟨⟨hga, hgb⟩, rfl, hy0⟩ := hd
    obtain ⟨ex, gx, lx⟩ := good_gw hga
    obtain ⟨ey, gy, ly⟩ := good_gw hgb
    have hne : nat ys ≠ [] := fun h => by rw [← nat_len, h] at hy0; simp at hy0
    have hD := nrm_pos gy.1 hne
    refine ⟨dg_div_len gx.1 lx hD, ?_⟩
    have hr0 := Int.emod_nonneg (sv n (nat xs)) (show (val (nat ys) : Int) ≠ 0 by omega)
    have hr1 := Int.emod_lt_of_pos (sv n (nat xs)) (show (0 : Int) < (val (nat ys) : Int) by omega)
    have h1 : cnt (sv n (nat xs) % (val (nat ys) : Int)).natAbs ≤ cnt (val (nat ys)) := cnt_mono (by omega)
    have h2 := cnt_nrm gy.1
    have h3 : (dg (sv n (nat xs) % (val (nat ys) : Int))).length = cnt (sv n (nat xs) % (val (nat ys) : Int)).natAbs := rfl
    show (dg (sv n (nat xs) % (val (nat ys) : Int))).length ≤ 40
    omega
  · simp
/-- two whole numbers that were told together -/
def RW2 (dj : Prop) (b0 b1 : Bool) (n0 n1 : Nat) (l0 l1 : List Int) (W : World) (lo hi : Nat) (p : Array Value × Array Value) : Prop :=
  ∃ a0 c0 a1 c1, p = (#[.bool b0, .slice a0 n0 c0], #[.bool b1, .slice a1 n1 c1]) ∧ OwI l0 W lo hi (.slice a0 n0 c0) ∧ OwI l1 W lo hi (.slice a1 n1 c1) ∧ (dj → ∀ b, (Value.slice a0 n0 c0).ownBlock = some b → (Value.slice a1 n1 c1).ownBlock = some b → False)
theorem far_RW2 (dj : Prop) (b0 b1 : Bool) (n0 n1 : Nat) (l0 l1 : List Int) : Far (RW2 dj b0 b1 n0 n1 l0 l1) := fun W W' lo hi v h hf hs => by
  obtain ⟨a0, c0, a1, c1, e, o0, o1, d⟩ := h
  exact ⟨a0, c0, a1, c1, e, far_OwI _ W W' lo hi _ o0 hf hs, far_OwI _ W W' lo hi _ o1 hf hs, d⟩
theorem shape_RW2 {dj : Prop} {b0 b1 : Bool} {n0 n1 : Nat} {l0 l1 : List Int} (W : World) (lo hi : Nat) (p : Array Value × Array Value) (h : RW2 dj b0 b1 n0 n1 l0 l1 W lo hi p) : ∃ a0 c0 a1 c1, p = (#[.bool b0, .slice a0 n0 c0], #[.bool b1, .slice a1 n1 c1]) := by
  obtain ⟨a0, c0, a1, c1, e, _⟩ := h
  exact ⟨a0, c0, a1, c1, e⟩
set_option maxHeartbeats 4000000 in
theorem DivWholes_any (n m : Bool) (xs ys : List Int) (v u : Value) (w : World) (hv : Row w v xs) (hu : Row w u ys) (hlx : xs.length ≤ 9223372036854775807) (hly : ys.length ≤ 9223372036854775807) :
    Calls Try.prog 4 #[.agg #[.bool n, v], .agg #[.bool m, u]] w fun e w' => e = .returned (.bool true) ∧ Old w w' := by
  obtain ⟨a0, c0, rfl⟩ := hv.slice
  obtain ⟨a1, c1, rfl⟩ := hu.slice
  obtain ⟨R, hR⟩ : ∃ R, divW n m xs ys = R := ⟨_, rfl⟩
  have hlen := len_div n m xs ys
  rw [hR] at hlen
  obtain ⟨rb, l0, l1, ro⟩ := R
  simp only at hlen
  have e0 : (toI l0).length = l0.length := toI_len l0
  have e1 : (toI l1).length = l1.length := toI_len l1
  have bnd : ∀ {A : Prop}, ¬ leftN 1048576 xs.length < 0 → ¬ leftN (leftN 1048576 xs.length) ys.length < 0 → (xs.length ≤ 1048576 → ys.length ≤ 1048576 → A) → A := fun h1 h2 k => by
    obtain ⟨q1, q2, q3⟩ := leftN_ok h1 (by omega)
    obtain ⟨q4, q5, q6⟩ := leftN_ok h2 q3
    exact k (by omega) (by omega)
  refine law_div w n xs.length a0 c0 m ys.length a1 c1 rb (toI l0).length false (toI l1).length ro (leftN 1048576 xs.length) (leftN (leftN 1048576 xs.length) ys.length)
    (fun W g => kw_sz n a0 xs.length c0 1048576 W hlx (by omega) (by omega))
    (fun h W g => by
      obtain ⟨q1, q2, q3⟩ := leftN_ok h (by omega)
      exact kw_sz m a1 ys.length c1 _ W hly q3 (by omega))
    (XW n xs) (far_XW n xs) shape_XW (fun h1 h2 W g => bnd h1 h2 fun h3 h4 => kw_to n xs _ W (hv.old g) h3) (fun h1 h2 W lo hi g lo' hi' g' k k' => bnd h1 h2 fun h3 h4 => kw_eq n xs W lo hi g lo' hi' g' k k' (by omega)) (1 + xs.length) (by omega) (fun h1 h2 W lo hi g k => bnd h1 h2 fun h3 h4 => kw_mark n xs 1 W lo hi g k h3 (by omega) (by omega))
    (XW m ys) (far_XW m ys) shape_XW (fun h1 h2 W g => bnd h1 h2 fun h3 h4 => kw_to m ys _ W (hu.old g) h4) (fun h1 h2 W lo hi g lo' hi' g' k k' => bnd h1 h2 fun h3 h4 => kw_eq m ys W lo hi g lo' hi' g' k k' (by omega)) (1 + xs.length + ys.length) (by omega) (fun h1 h2 W lo hi g k => bnd h1 h2 fun h3 h4 => kw_mark m ys _ W lo hi g k h4 (by omega) (by omega))
    (RW2 False rb false (toI l0).length (toI l1).length (toI l0) (toI l1)) (far_RW2 _ _ _ _ _ _ _) shape_RW2
    (RW2 True rb false (toI l0).length (toI l1).length (toI l0) (toI l1)) (far_RW2 _ _ _ _ _ _ _) shape_RW2
    (RW2 True rb false (toI l0).length (toI l1).length (marks 1 (toI l0).length) (toI l1)) (far_RW2 _ _ _ _ _ _ _) shape_RW2
    (RW2 True rb false (toI l0).length (toI l1).length (marks 1 (toI l0).length) (marks (1 + (toI l0).length) (toI l1).length)) (far_RW2 _ _ _ _ _ _ _) shape_RW2
    (fun h1 h2 W lo0 hi0 g0 lo1 hi1 g1 k0 k1 => bnd h1 h2 fun h3 h4 => ?_)
    (fun h1 h2 W lo0 hi0 g0 lo1 hi1 g1 k0 k1 g => bnd h1 h2 fun h3 h4 => ?_)
    (fun h1 h2 W lo hi p lo' hi' p' k k' => ?_)
    (1 + (toI l0).length) (by omega) (fun h1 h2 W lo hi p k => ?_) (fun h1 h2 W lo hi p k => ?_)
    (fun h1 h2 W lo hi p lo' hi' p' k k' => ?_)
    (1 + (toI l0).length + (toI l1).length) (by omega) (fun h1 h2 W lo hi p k => ?_) (fun h1 h2 W lo hi p k => ?_)
  · obtain ⟨x0, y0, rfl, o0⟩ := k0
    obtain ⟨x1, y1, rfl, o1⟩ := k1
    refine (spec_div n m xs ys _ _ W o0.row o1.row h3 h4 _ hR).mono ?_
    rintro e w' ⟨v1, v2, rfl, g, p1, p2⟩
    obtain ⟨z1, t1, rfl⟩ := (Own.row p1).slice
    obtain ⟨z2, t2, rfl⟩ := (Own.row p2).slice
    exact ⟨_, _, rfl, g, z1, t1, z2, t2, rfl, OwI.of p1, OwI.of p2, fun h => h.elim⟩
  · obtain ⟨x0, y0, rfl, o0⟩ := k0
    obtain ⟨x1, y1, rfl, o1⟩ := k1
    refine (impl_div n m xs ys _ _ W o0.row o1.row h3 h4 _ hR).mono ?_
    rintro e w' ⟨v1, v2, rfl, g, p1, p2, d⟩
    obtain ⟨z1, t1, rfl⟩ := (Own.row p1).slice
    obtain ⟨z2, t2, rfl⟩ := (Own.row p2).slice
    exact ⟨_, _, rfl, g, z1, t1, z2, t2, rfl, OwI.of p1, OwI.of p2, fun _ => d⟩
  · obtain ⟨x0, y0, x1, y1, rfl, o0, o1, d⟩ := k
    obtain ⟨x0', y0', x1', y1', rfl, o0', o1', d'⟩ := k'
    exact eqWhole_yes rb (toI l0) _ _ W o0.row o0'.row (by omega)
  · obtain ⟨x0, y0, x1, y1, rfl, o0, o1, d⟩ := k
    refine (markWhole_any rb (toI l0) _ 1 lo W o0.1 (by omega) (by omega) (by omega)).mono ?_
    rintro e w' ⟨rfl, gr, ow⟩
    obtain ⟨hc, ho⟩ := o0.mark gr ow
    refine ⟨rfl, hc, x0, y0, x1, y1, rfl, ho, ⟨?_, Nat.le_trans o1.2.1 gr.size, o1.2.2⟩, d⟩
    exact o1.1.by_ gr (fun a b h1 h2 h3 => by subst h3; exact d trivial a h2 h1)
  · obtain ⟨x0, y0, x1, y1, rfl, o0, o1, d⟩ := k
    exact heldWhole_yes rb (toI l0).length _ 1 W o0.row (by omega) (by omega) (by omega)
  · obtain ⟨x0, y0, x1, y1, rfl, o0, o1, d⟩ := k
    obtain ⟨x0', y0', x1', y1', rfl, o0', o1', d'⟩ := k'
    exact eqWhole_yes false (toI l1) _ _ W o1.row o1'.row (by omega)
  · obtain ⟨x0, y0, x1, y1, rfl, o0, o1, d⟩ := k
    refine (markWhole_any false (toI l1) _ _ lo W o1.1 (by omega) (by omega) (by omega)).mono ?_
    rintro e w' ⟨rfl, gr, ow⟩
    obtain ⟨hc, ho⟩ := o1.mark gr ow
    refine ⟨rfl, hc, x0, y0, x1, y1, rfl, ⟨?_, Nat.le_trans o0.2.1 gr.size, o0.2.2⟩, ho, d⟩
    exact o0.1.by_ gr (fun a b h1 h2 h3 => by subst h3; exact d trivial a h1 h2)
  · obtain ⟨x0, y0, x1, y1, rfl, o0, o1, d⟩ := k
    exact heldWhole_yes false (toI l1).length _ _ W o1.row (by omega) (by omega) (by omega)
end Go.Proofs.Ytafcffnpobdhgaa
