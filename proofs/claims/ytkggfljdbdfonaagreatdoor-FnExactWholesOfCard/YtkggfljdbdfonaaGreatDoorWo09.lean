/- Proved: several texts in one: what each proves is said ahead of it. -/
import Derived.Test.YtkggfljdbdfonaaGreatDoorWo02
import Derived.RegionTactic
import Derived.ChangeAlike
import Derived.Deep.RegionLaw
import Derived.Deep.AppendLies
/- Proved: whether a list is a polynomial of a ring, of the program and of the model. -/
namespace Go.Proofs.YtkggfljdbdfonaaGreatDoor
open Go.ChangeShapes Go.WideShapes Go.ChangeAt Go.RowKit
set_option linter.unusedVariables false
/-- as many numbers as the ring asks for, each below its prime -/
def polyB (p n : Int) (xs : List Int) : Bool := decide ((xs.length : Int) = n) && xs.all (fun x => resB x p)
theorem in_res (x p : Int) : inB x 0 (p - 1) = resB x p := by
  rw [Bool.eq_iff_iff]
  simp [inB, resB]
  omega
theorem spec_res (x p : Int) (w : World) : Calls Tryz.prog 101 #[.int .i64 x, .int .i64 0, .int .i64 (p - 1)] w fun e w' => e = .returned (.bool (resB x p)) ∧ w' = w := by
  rw [← in_res]
  exact spec_in x 0 (p - 1) w
set_option maxHeartbeats 1000000 in
theorem impl_poly (p n r : Int) (xs : List Int) (v : Value) (w : World) (hv : Row w v xs) (hl : xs.length ≤ 9223372036854775807) (hp : 2 ≤ p ∧ p ≤ 268435456) :
    Calls Tryz.prog 154 #[.agg #[.int .i64 p, .int .i64 n, .int .i64 r], v] w fun e w' => e = .returned (.bool (polyB p n xs)) ∧ Old w w' := by
  by_cases hn : (xs.length : Int) = n
  · have HB : Hid ((xs.drop 0).all (fun x => resB x p) = polyB p n xs) := by
      show _ = _
      simp [polyB, hn]
    generalize polyB p n xs = B at *
    have dn : ((xs.length : Int) != n) = false := by simp [hn]
    clear hn
    rcases hv with ⟨a, cap, rfl, rfl⟩ | ⟨b, o, cap, rfl, hb, h0, hc⟩
    · have HB2 : Hid (true = B) := HB.out
      have dn0 : ((0 : Int) != n) = false := by simpa using dn
      clear HB
      go_enter Tryz.func154, Tryz.ntmps154
      go_wp2_with fail
      refine wp_loop_rounds 1 ?_
      rw [rounds_succ]
      go_wp2_with fail
      go_ret
      exact ⟨by rw [← HB2.out]; rfl, (Old.refl _).alloc _⟩
    · have HC : Hid (∀ j, j < xs.length → w.cell? ⟨b, o + j, none⟩ = some (.int .i64 (xs.getD j 0))) := hc
      clear hc
      have RC0 : Hid (Rc (w.alloc (.cells #[.int .i64 p, .int .i64 n, .int .i64 r] 116)) w.heap.size p n r) := Rc.new w p n r
      go_enter Tryz.func154, Tryz.ntmps154
      go_wp2_with fail
      go_loopw [6, 14] (fun x i W => ∃ k : Nat, k ≤ xs.length ∧ i = .int .i64 k ∧ Hid ((xs.drop k).all (fun x => resB x p) = B) ∧ Hid (Old (w.alloc (.cells #[.int .i64 p, .int .i64 n, .int .i64 r] 116)) W)) (fun _ i _ => xs.length - (intOf i).toNat)
      case atStart => exact ⟨0, by omega, rfl, HB, Old.refl _⟩
      case round =>
        obtain ⟨k, hk, rfl, H1, HG⟩ := hrel
        clear HB
        have z0 := (RC0.out.old HG.out).c0
        have HW : Hid (Old w wr) := Old.trans ((Old.refl w).alloc _) HG.out
        by_cases hlt : k < xs.length
        · have d1 : decide ((k : Int) < (xs.length : Int)) = true := by simp; omega
          have c1 : wr.cell? ⟨b, o + k, none⟩ = some (.int .i64 (xs.getD k 0)) := (HW.out.cell (p := ⟨b, o + k, none⟩) hb).trans (HC.out k hlt)
          have H2 : Hid ((resB (xs.getD k 0) p && (xs.drop (k + 1)).all (fun x => resB x p)) = B) := by
            have := H1.out
            rw [List.drop_eq_getElem_cons hlt, List.all_cons] at this
            have e : xs.getD k 0 = xs[k] := by simp [List.getD, hlt]
            rw [e]
            exact this
          clear H1
          generalize xs.getD k 0 = x at *
          have c := fun W => residue_any x p W
          cases hx : resB x p
          · rw [hx] at c
            have H3 : Hid (false = B) := by have := H2.out; rw [hx] at this; exact this
            clear H2 hx
            go_wp2_with fail
            refine (c _).mono ?_
            rintro e w2 ⟨rfl, rfl⟩
            go_wp2_with fail
            go_ret
            exact ⟨by rw [← H3.out]; rfl, HW.out⟩
          · rw [hx] at c
            have H3 : Hid ((xs.drop (k + 1)).all (fun x => resB x p) = B) := by have := H2.out; rw [hx, Bool.true_and] at this; exact this
            clear H2 hx
            go_wp2_with fail
            refine (c _).mono ?_
            rintro e w2 ⟨rfl, rfl⟩
            go_wp2_with fail
            exact ⟨⟨k + 1, by omega, by go_num, H3, HG⟩, by simp [intOf]; omega⟩
        · have d1 : decide ((k : Int) < (xs.length : Int)) = false := by simp; omega
          have H3 : Hid (true = B) := by
            have := H1.out
            rw [List.drop_eq_nil_of_le (by omega)] at this
            exact this
          clear H1
          go_wp2_with fail
          go_ret
          exact ⟨by rw [← H3.out]; rfl, HW.out⟩
  · have HB : Hid (false = polyB p n xs) := by
      show _ = _
      simp [polyB, hn]
    generalize polyB p n xs = B at *
    have dn : ((xs.length : Int) != n) = true := by simp [hn]
    obtain ⟨a, cap, rfl⟩ := hv.slice
    clear hn hv
    go_enter Tryz.func154, Tryz.ntmps154
    go_wp2_with fail
    go_ret
    exact ⟨by rw [← HB.out]; rfl, (Old.refl _).alloc _⟩
set_option maxHeartbeats 1000000 in
theorem spec_poly (p n r : Int) (xs : List Int) (v : Value) (w : World) (hv : Row w v xs) (hl : xs.length ≤ 9223372036854775807) (hp : 2 ≤ p ∧ p ≤ 268435456) :
    Calls Tryz.prog 120 #[.agg #[.int .i64 p, .int .i64 n, .int .i64 r], v] w fun e w' => e = .returned (.bool (polyB p n xs)) ∧ Old w w' := by
  by_cases hn : (xs.length : Int) = n
  · have HB : Hid ((xs.drop 0).all (fun x => resB x p) = polyB p n xs) := by
      show _ = _
      simp [polyB, hn]
    generalize polyB p n xs = B at *
    have dn : ((xs.length : Int) != n) = false := by simp [hn]
    clear hn
    rcases hv with ⟨a, cap, rfl, rfl⟩ | ⟨b, o, cap, rfl, hb, h0, hc⟩
    · have HB2 : Hid (true = B) := HB.out
      have dn0 : ((0 : Int) != n) = false := by simpa using dn
      clear HB
      go_enter Tryz.func120, Tryz.ntmps120
      go_wp2_with fail
      refine wp_loop_rounds 1 ?_
      rw [rounds_succ]
      go_wp2_with fail
      go_ret
      exact ⟨by rw [← HB2.out]; rfl, (Old.refl _).alloc _⟩
    · have HC : Hid (∀ j, j < xs.length → w.cell? ⟨b, o + j, none⟩ = some (.int .i64 (xs.getD j 0))) := hc
      clear hc
      have RC0 : Hid (Rc (w.alloc (.cells #[.int .i64 p, .int .i64 n, .int .i64 r] 116)) w.heap.size p n r) := Rc.new w p n r
      go_enter Tryz.func120, Tryz.ntmps120
      go_wp2_with fail
      go_loopw [6, 14] (fun x i W => ∃ k : Nat, k ≤ xs.length ∧ i = .int .i64 k ∧ Hid ((xs.drop k).all (fun x => resB x p) = B) ∧ Hid (Old (w.alloc (.cells #[.int .i64 p, .int .i64 n, .int .i64 r] 116)) W)) (fun _ i _ => xs.length - (intOf i).toNat)
      case atStart => exact ⟨0, by omega, rfl, HB, Old.refl _⟩
      case round =>
        obtain ⟨k, hk, rfl, H1, HG⟩ := hrel
        clear HB
        have z0 := (RC0.out.old HG.out).c0
        have HW : Hid (Old w wr) := Old.trans ((Old.refl w).alloc _) HG.out
        by_cases hlt : k < xs.length
        · have d1 : decide ((k : Int) < (xs.length : Int)) = true := by simp; omega
          have c1 : wr.cell? ⟨b, o + k, none⟩ = some (.int .i64 (xs.getD k 0)) := (HW.out.cell (p := ⟨b, o + k, none⟩) hb).trans (HC.out k hlt)
          have H2 : Hid ((resB (xs.getD k 0) p && (xs.drop (k + 1)).all (fun x => resB x p)) = B) := by
            have := H1.out
            rw [List.drop_eq_getElem_cons hlt, List.all_cons] at this
            have e : xs.getD k 0 = xs[k] := by simp [List.getD, hlt]
            rw [e]
            exact this
          clear H1
          generalize xs.getD k 0 = x at *
          have c := fun W => spec_res x p W
          cases hx : resB x p
          · rw [hx] at c
            have H3 : Hid (false = B) := by have := H2.out; rw [hx] at this; exact this
            clear H2 hx
            go_wp2_with fail
            refine (c _).mono ?_
            rintro e w2 ⟨rfl, rfl⟩
            go_wp2_with fail
            go_ret
            exact ⟨by rw [← H3.out]; rfl, HW.out⟩
          · rw [hx] at c
            have H3 : Hid ((xs.drop (k + 1)).all (fun x => resB x p) = B) := by have := H2.out; rw [hx, Bool.true_and] at this; exact this
            clear H2 hx
            go_wp2_with fail
            refine (c _).mono ?_
            rintro e w2 ⟨rfl, rfl⟩
            go_wp2_with fail
            exact ⟨⟨k + 1, by omega, by go_num, H3, HG⟩, by simp [intOf]; omega⟩
        · have d1 : decide ((k : Int) < (xs.length : Int)) = false := by simp; omega
          have H3 : Hid (true = B) := by
            have := H1.out
            rw [List.drop_eq_nil_of_le (by omega)] at this
            exact this
          clear H1
          go_wp2_with fail
          go_ret
          exact ⟨by rw [← H3.out]; rfl, HW.out⟩
  · have HB : Hid (false = polyB p n xs) := by
      show _ = _
      simp [polyB, hn]
    generalize polyB p n xs = B at *
    have dn : ((xs.length : Int) != n) = true := by simp [hn]
    obtain ⟨a, cap, rfl⟩ := hv.slice
    clear hn hv
    go_enter Tryz.func120, Tryz.ntmps120
    go_wp2_with fail
    go_ret
    exact ⟨by rw [← HB.out]; rfl, (Old.refl _).alloc _⟩
/-- a list of numbers below the prime -/
abbrev toZ (ys : List Nat) : List Int := ys.map (fun (n : Nat) => (n : Int))
theorem polyB_yes {P N : Nat} {xs : List Int} (h : polyB P N xs = true) : ∃ ys : List Nat, xs = toZ ys ∧ ys.length = N ∧ ∀ y ∈ ys, y < P := by
  simp only [polyB, Bool.and_eq_true, decide_eq_true_eq, List.all_eq_true, resB] at h
  obtain ⟨h1, h2⟩ := h
  refine ⟨xs.map Int.toNat, ?_, by simp; omega, fun y hy => ?_⟩
  · rw [toZ, List.map_map]
    refine (List.map_id xs).symm.trans (List.map_congr_left fun x hx => ?_)
    have := h2 x hx
    simp
    omega
  · obtain ⟨x, hx, rfl⟩ := List.mem_map.1 hy
    have := h2 x hx
    omega
end Go.Proofs.YtkggfljdbdfonaaGreatDoor
/- Proved: the doors of the functions on rings: none where the ring, a list or a turn is not as said; what the function within answers otherwise. -/
namespace Go.Proofs.YtkggfljdbdfonaaGreatDoor
open Go.ChangeShapes Go.WideShapes Go.ChangeAt Go.RowKit
set_option linter.unusedVariables false
theorem own_nil (w : World) (base : Nat) : Own w base (.slice none 0 0) [] := ⟨rfl, Or.inl ⟨rfl, rfl⟩⟩
end Go.Proofs.YtkggfljdbdfonaaGreatDoor
/- Proved: rows of the call's own that are filled one by one, rows of numbers read, rows appended to. -/
namespace Go.Proofs.YtkggfljdbdfonaaGreatDoor
open Go.ChangeShapes Go.WideShapes Go.ChangeAt Go.RowKit
set_option linter.unusedVariables false
theorem toZ_len (xs : List Nat) : (toZ xs).length = xs.length := by simp
theorem toZ_get (xs : List Nat) (j : Nat) : (toZ xs).getD j 0 = ((xs.getD j 0 : Nat) : Int) := by
  simp [List.getD, List.getElem?_map]
  cases xs[j]? <;> rfl
theorem Row.atZ {w : World} {v : Value} {xs : List Nat} (h : Row w v (toZ xs)) (h0 : 0 < xs.length) :
    ∃ b o cap, v = .slice (some ⟨b, o, none⟩) xs.length cap ∧ b < w.heap.size ∧ ∀ j, j < xs.length → w.cell? ⟨b, o + j, none⟩ = some (.int .i64 ((xs.getD j 0 : Nat) : Int)) := by
  rcases h with ⟨a, cap, e, e2⟩ | ⟨b, o, cap, e, hb, h1, hc⟩
  · have := congrArg List.length e2
    simp at this
    rw [this] at h0
    cases h0
  · rw [toZ_len] at e hc
    exact ⟨b, o, cap, e, hb, fun j hj => by rw [hc j hj, toZ_get]⟩
/-- a row of n numbers of the call's own, at its head -/
abbrev OwnI (w : World) (base g n : Nat) (xs : List Int) : Prop := w.ownsRow base 3 1 (.slice (some ⟨g, 0, none⟩) n n) n (xs.map (Value.int .i64))
theorem OwnI.get {w : World} {base g n : Nat} {xs : List Int} (h : OwnI w base g n xs) (hn : xs.length = n) (j : Nat) (hj : j < n) : w.cell? ⟨g, j, none⟩ = some (.int .i64 (xs.getD j 0)) := by
  rw [World.ownsRow.cellAt h j (by omega)]
  have : j < xs.length := by omega
  simp [List.getD, this]
theorem OwnI.free {w : World} {base g n : Nat} {xs : List Int} (h : OwnI w base g n xs) (j : Nat) : w.frozen? ⟨g, j, none⟩ = false := World.ownsRow.frozenAt h j
theorem OwnI.put {w : World} {base g n : Nat} {xs : List Int} (h : OwnI w base g n xs) (j : Nat) (y : Int) : OwnI (w.setCell ⟨g, j, none⟩ (.int .i64 y)) base g n (xs.set j y) := by
  have := (World.ownsRow.stored h j (.int .i64 y)).1
  unfold OwnI
  rw [List.map_set]
  exact this
theorem OwnI.own {w : World} {base g n : Nat} {xs : List Int} (h : OwnI w base g n xs) (hn : xs.length = n) : Own w base (.slice (some ⟨g, 0, none⟩) n n) xs := by
  unfold Own
  rw [hn]
  exact h
theorem OwnI.drewN {w : World} {base g n : Nat} {xs : List Int} (h : OwnI w base g n xs) (k : Nat) : OwnI (w.drewN k) base g n xs := h
theorem OwnI.old {w w' : World} {base g n : Nat} {xs : List Int} (h : OwnI w base g n xs) (hg : Old w w') : OwnI w' base g n xs := by
  refine ⟨h.1, ?_⟩
  rcases h.2 with hn | ⟨p, cap, cur, e, hb, hgg, rest⟩
  · exact .inl hn
  · refine .inr ⟨p, cap, cur, e, hb, ?_, rest⟩
    rw [hg.block p (Array.getElem?_eq_some_iff.1 hgg).1]
    exact hgg
theorem OwnI.new (w w1 : World) (n : Nat) (h : w1.ownsRow w.heap.size 3 1 (.slice (some ⟨w.heap.size, 0, none⟩) n n) n (madeCells (Value.int .i64 0).cells (n * 1)).toList) : OwnI w1 w.heap.size w.heap.size n (List.replicate n 0) := by
  rw [made_ints] at h
  exact h
theorem mul_lt28 (x y P : Nat) (hx : x < P) (hy : y < P) (hP : P ≤ 268435456) : x * y ≤ 72057594037927936 := by
  have := Nat.mul_le_mul (Nat.le_of_lt hx) (Nat.le_of_lt hy)
  have := Nat.mul_le_mul hP hP
  omega
theorem getD_lt {P : Nat} {xs : List Nat} (h : ∀ x ∈ xs, x < P) (hP : 0 < P) (j : Nat) : xs.getD j 0 < P := by
  by_cases hj : j < xs.length
  · have e : xs.getD j 0 = xs[j] := by simp [List.getD, hj]
    rw [e]
    exact h _ (List.getElem_mem hj)
  · have e : xs.getD j 0 = 0 := by simp [List.getD, List.getElem?_eq_none (show xs.length ≤ j by omega)]
    rw [e]
    exact hP
theorem one_cell (w : World) (x : Value) (t : TypeId) : ∀ j u, [x][j]? = some u → (w.alloc (.cells #[x] t)).cell? ((⟨w.heap.size, 0, none⟩ : Addr).add j) = some u := by
  intro j u h
  match j, h with
  | 0, h =>
    have : x = u := by simpa using h
    subst this
    exact cell_at w _ _ _ _ rfl
  | j + 1, h => simp at h
theorem one_one (x : Int) : ∀ u ∈ [Value.int .i64 x], u.oneCell' = true := by simp [Value.oneCell']
theorem Own.snoc {w : World} {base : Nat} {v : Value} {xs : List Int} {y : Int} (h : w.ownsRow base 3 1 v (xs.length + 1) (xs.map (Value.int .i64) ++ [.int .i64 y])) : Own w base v (xs ++ [y]) := by
  unfold Own
  rw [List.length_append, List.map_append]
  exact h
theorem Own.alloc {w : World} {base : Nat} {v : Value} {xs : List Int} (h : Own w base v xs) (o : Obj) : Own (w.alloc o) base v xs := h.old ((Old.refl _).alloc _)
end Go.Proofs.YtkggfljdbdfonaaGreatDoor
