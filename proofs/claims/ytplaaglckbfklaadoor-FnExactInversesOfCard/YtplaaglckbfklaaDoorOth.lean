/- Proved: the contract of the program's othersOf. -/
import Derived.Test.YtplaaglckbfklaaDoorConc2
import Derived.Deep.RegionHeld3
namespace Go.Proofs.YtplaaglckbfklaaDoor
open Go.ChangeShapes Go.WideShapes Go.ChangeAt Go.RowKit
set_option linter.unusedVariables false
set_option linter.unusedSimpArgs false
theorem concat_len (xs ys : List Int) (n1 n2 : Nat) (e1 : xs.length = n1) (e2 : ys.length = n2) (g : Nat) (a1 a2 : Addr) (c1 c2 : Nat) (w : World) (h1 : w.cell? ⟨g, 0, none⟩ = some (.slice (some a1) n1 c1)) (h2 : w.cell? ⟨g, 1, none⟩ = some (.slice (some a2) n2 c2))
    (l1 : Lie w a1 xs) (l2 : Lie w a2 ys) (hx : n1 ≤ 50) (hy : n2 ≤ 50) :
    Calls Tryd.prog 178 #[.slice (some ⟨g, 0, none⟩) 2 2] w fun e w' => ∃ v', e = .returned v' ∧ Old w w' ∧ Own w' w.heap.size v' (xs ++ ys) := by
  subst e1 e2
  exact concat_any xs ys g a1 a2 c1 c2 w h1 h2 l1 l2 hx hy
theorem add_at (b o j : Nat) : (⟨b, o, none⟩ : Addr).add j = ⟨b, o + j, none⟩ := by
  by_cases hj : j = 0
  · subst hj; simp [Addr.add]
  · simp [Addr.add, hj]
theorem lie_part {w : World} {b o : Nat} {xs : List Int} (hc : ∀ j, j < xs.length → w.cell? ⟨b, o + j, none⟩ = some (.int .i64 (xs.getD j 0))) (k n : Nat) : Lie w ⟨b, o + k, none⟩ ((xs.drop k).take n) := by
  intro j u hj
  rw [List.getElem?_map, List.getElem?_take] at hj
  by_cases h1 : j < n
  · rw [if_pos h1, List.getElem?_drop] at hj
    by_cases h2 : k + j < xs.length
    · rw [List.getElem?_eq_getElem h2] at hj
      simp only [Option.map_some, Option.some.injEq] at hj
      rw [add_at, Nat.add_assoc, hc (k + j) h2, ← hj]
      simp [List.getD, h2]
    · rw [List.getElem?_eq_none (by omega)] at hj
      cases hj
  · rw [if_neg h1] at hj
    cases hj
set_option maxRecDepth 100000 in
set_option maxHeartbeats 4000000 in
theorem others_any (xs : List Int) (v : Value) (i : Nat) (w : World) (hv : Row w v xs) (hf : Fit v) (hi : i < xs.length) (hl : xs.length ≤ 50) :
    Calls Tryd.prog 129 #[v, .int .i64 i] w fun e w' => ∃ v', e = .returned v' ∧ Old w w' ∧ Own w' w.heap.size v' (xs.take i ++ xs.drop (i + 1)) := by
  rcases hv with ⟨a, cap, rfl, rfl⟩ | ⟨b, o, cap, rfl, hb, h0, hc⟩
  · simp at hi
  have hcap : xs.length ≤ cap := hf
  obtain ⟨j, hj⟩ : ∃ j, j = i + 1 := ⟨_, rfl⟩
  rw [← hj]
  have k1 : i ≤ cap := by omega
  have e1 : IntKind.i64.wrap ((i : Int) + 1) = (j : Int) := by rw [IntKind.wrap_i64]; omega
  have k3 : j ≤ xs.length := by omega
  have k4 : j ≤ cap := by omega
  have HL1 : Hid (Lie w ⟨b, o, none⟩ (xs.take i)) := by
    have := lie_part hc 0 i
    rw [List.drop_zero, Nat.add_zero] at this
    exact this
  obtain ⟨a2, ha2, hl2⟩ : ∃ a2, (if cap = j then some (⟨b, o, none⟩ : Addr) else some ⟨b, o + j, none⟩) = some a2 ∧ Lie w a2 (xs.drop j) := by
    by_cases hcj : cap = j
    · rw [if_pos hcj]
      refine ⟨_, rfl, ?_⟩
      rw [List.drop_eq_nil_of_le (by omega)]
      exact Lie.nil _ _
    · rw [if_neg hcj]
      refine ⟨_, rfl, ?_⟩
      have := lie_part hc j (xs.length - j)
      rw [List.take_of_length_le (by simp)] at this
      exact this
  have HA2 : Hid ((if cap = j then some (⟨b, o, none⟩ : Addr) else some ⟨b, o + j, none⟩) = some a2) := ha2
  have HL2 : Hid (Lie w a2 (xs.drop j)) := hl2
  have HN1 : Hid ((xs.take i).length = i) := by show _ = _; rw [List.length_take]; omega
  have HN2 : Hid ((xs.drop j).length = xs.length - j) := by show _ = _; rw [List.length_drop]
  have HK : Hid (i ≤ 50 ∧ xs.length - j ≤ 50) := ⟨by omega, by omega⟩
  have tt : True := trivial
  generalize xs.take i = ys at *
  generalize xs.drop j = zs at *
  clear hj hc hf ha2 hl2 hi
  generalize xs.length = n at *
  obtain ⟨rs, hrs⟩ : ∃ rs, ys ++ zs = rs := ⟨_, rfl⟩
  rw [hrs]
  have HRS : Hid (ys ++ zs = rs) := hrs
  clear hrs
  go_enter Tryd.func129, Tryd.ntmps129
  go_wp2_with fail
  go_region_held3 (fun W' => W' = W') (first | exact rfl | fail) (first | (go_at_call 178; rw [HA2.out]; refine (concat_len ys zs i (n - j) HN1.out HN2.out w.heap.size ⟨b, o, none⟩ a2 cap (cap - j) _ (cell_at w _ _ _ 0 rfl) (cell_at w _ _ _ 1 rfl) (HL1.out.old (((Old.refl w).alloc _).drewN 1)) (HL2.out.old (((Old.refl w).alloc _).drewN 1)) HK.out.1 HK.out.2).mono ?_; rw [HRS.out]; rintro e w1 ⟨v1, rfl, g1, o1⟩; have HG : Hid (Old w w1) := Old.trans (((Old.refl w).alloc _).drewN 1) g1; have HO : Hid (Own w1 w.heap.size v1 rs) := o1.low (by show w.heap.size ≤ (w.alloc _).heap.size; simp); obtain ⟨va1, vc1, rfl⟩ := (Own.row o1).slice; clear g1 o1) | fail)
  all_goals
    go_wp2_with fail
    go_ret
    exact ⟨_, rfl, HG.out, HO.out⟩
end Go.Proofs.YtplaaglckbfklaaDoor
