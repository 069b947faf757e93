/- Proved: several texts in one: what each proves is said ahead of it. -/
import Derived.Test.YtglbegbhekcddaaDoorRw10
import Derived.Test.YtglbegbhekcddaaDoorBack
import Derived.OwnWalk
import Derived.Test.YtglbegbhekcddaaDoorTab
/- Proved: whether a list is a polynomial of a ring, of the program and of the model. -/
namespace Go.Proofs.YtglbegbhekcddaaDoor
open Go.ChangeShapes Go.WideShapes Go.ChangeAt Go.RowKit
set_option linter.unusedVariables false
def polyB (p n : Int) (xs : List Int) : Bool := decide ((xs.length : Int) = n) && xs.all (fun x => resB x p)
theorem in_res (x p : Int) : inB x 0 (p - 1) = resB x p := by
  rw [Bool.eq_iff_iff]
  simp [inB, resB]
  omega
theorem spec_res (x p : Int) (w : World) : Calls Tryd.prog 64 #[.int .i64 x, .int .i64 0, .int .i64 (p - 1)] w fun e w' => e = .returned (.bool (resB x p)) ∧ w' = w := by
  rw [← in_res]
  exact spec_in x 0 (p - 1) w
set_option maxHeartbeats 1000000 in
theorem impl_poly (p n r : Int) (xs : List Int) (v : Value) (w : World) (hv : Row w v xs) (hl : xs.length ≤ 9223372036854775807) (hp : 2 ≤ p ∧ p ≤ 268435456) :
    Calls Tryd.prog 61 #[.agg #[.int .i64 p, .int .i64 n, .int .i64 r], v] w fun e w' => e = .returned (.bool (polyB p n xs)) ∧ Old w w' := by
  by_cases hn : (xs.length : Int) = n
  · have HB : Hid ((xs.drop 0).all (fun x => resB x p) = polyB p n xs) := by
      show _ = _
      simp [polyB, hn]
    generalize polyB p n xs = B at *
    have dn : ((xs.length : Int) != n) = false := by simp [hn]
    clear hn
    rcases hv with ⟨a, cap, rfl, rfl⟩ | ⟨b, o, cap, rfl, hb, h0, hc⟩
    · have HB2 : Hid (true = B) := HB.out
      have dn0 : ((0 : Int) != n) = false := by simpa using dn
      clear HB
      go_enter Tryd.func61, Tryd.ntmps61
      go_wp2_with fail
      refine wp_loop_rounds 1 ?_
      rw [rounds_succ]
      go_wp2_with fail
      go_ret
      exact ⟨by rw [← HB2.out]; rfl, (Old.refl _).alloc _⟩
    · have HC : Hid (∀ j, j < xs.length → w.cell? ⟨b, o + j, none⟩ = some (.int .i64 (xs.getD j 0))) := hc
      clear hc
      have RC0 : Hid (Rc (w.alloc (.cells #[.int .i64 p, .int .i64 n, .int .i64 r] 40)) w.heap.size p n r) := Rc.new w p n r
      go_enter Tryd.func61, Tryd.ntmps61
      go_wp2_with fail
      go_loopw [6, 14] (fun x i W => ∃ k : Nat, k ≤ xs.length ∧ i = .int .i64 k ∧ Hid ((xs.drop k).all (fun x => resB x p) = B) ∧ Hid (Old (w.alloc (.cells #[.int .i64 p, .int .i64 n, .int .i64 r] 40)) W)) (fun _ i _ => xs.length - (intOf i).toNat)
      case atStart => exact ⟨0, by omega, rfl, HB, Old.refl _⟩
      case round =>
        obtain ⟨k, hk, rfl, H1, HG⟩ := hrel
        clear HB
        have z0 := (RC0.out.old HG.out).c0
        have HW : Hid (Old w wr) := Old.trans ((Old.refl w).alloc _) HG.out
        by_cases hlt : k < xs.length
        · have d1 : decide ((k : Int) < (xs.length : Int)) = true := by simp; omega
          have c1 : wr.cell? ⟨b, o + k, none⟩ = some (.int .i64 (xs.getD k 0)) := (HW.out.cell (p := ⟨b, o + k, none⟩) hb).trans (HC.out k hlt)
          have H2 : Hid ((resB (xs.getD k 0) p && (xs.drop (k + 1)).all (fun x => resB x p)) = B) := by
            have := H1.out
            rw [List.drop_eq_getElem_cons hlt, List.all_cons] at this
            have e : xs.getD k 0 = xs[k] := by simp [List.getD, hlt]
            rw [e]
            exact this
          clear H1
          generalize xs.getD k 0 = x at *
          have c := fun W => residue_any x p W
          cases hx : resB x p
          · rw [hx] at c
            have H3 : Hid (false = B) := by have := H2.out; rw [hx] at this; exact this
            clear H2 hx
            go_wp2_with fail
            refine (c _).mono ?_
            rintro e w2 ⟨rfl, rfl⟩
            go_wp2_with fail
            go_ret
            exact ⟨by rw [← H3.out]; rfl, HW.out⟩
          · rw [hx] at c
            have H3 : Hid ((xs.drop (k + 1)).all (fun x => resB x p) = B) := by have := H2.out; rw [hx, Bool.true_and] at this; exact this
            clear H2 hx
            go_wp2_with fail
            refine (c _).mono ?_
            rintro e w2 ⟨rfl, rfl⟩
            go_wp2_with fail
            exact ⟨⟨k + 1, by omega, by go_num, H3, HG⟩, by simp [intOf]; omega⟩
        · have d1 : decide ((k : Int) < (xs.length : Int)) = false := by simp; omega
          have H3 : Hid (true = B) := by
            have := H1.out
            rw [List.drop_eq_nil_of_le (by omega)] at this
            exact this
          clear H1
          go_wp2_with fail
          go_ret
          exact ⟨by rw [← H3.out]; rfl, HW.out⟩
  · have HB : Hid (false = polyB p n xs) := by
      show _ = _
      simp [polyB, hn]
    generalize polyB p n xs = B at *
    have dn : ((xs.length : Int) != n) = true := by simp [hn]
    obtain ⟨a, cap, rfl⟩ := hv.slice
    clear hn hv
    go_enter Tryd.func61, Tryd.ntmps61
    go_wp2_with fail
    go_ret
    exact ⟨by rw [← HB.out]; rfl, (Old.refl _).alloc _⟩
set_option maxHeartbeats 1000000 in
theorem spec_poly (p n r : Int) (xs : List Int) (v : Value) (w : World) (hv : Row w v xs) (hl : xs.length ≤ 9223372036854775807) (hp : 2 ≤ p ∧ p ≤ 268435456) :
    Calls Tryd.prog 49 #[.agg #[.int .i64 p, .int .i64 n, .int .i64 r], v] w fun e w' => e = .returned (.bool (polyB p n xs)) ∧ Old w w' := by
  by_cases hn : (xs.length : Int) = n
  · have HB : Hid ((xs.drop 0).all (fun x => resB x p) = polyB p n xs) := by
      show _ = _
      simp [polyB, hn]
    generalize polyB p n xs = B at *
    have dn : ((xs.length : Int) != n) = false := by simp [hn]
    clear hn
    rcases hv with ⟨a, cap, rfl, rfl⟩ | ⟨b, o, cap, rfl, hb, h0, hc⟩
    · have HB2 : Hid (true = B) := HB.out
      have dn0 : ((0 : Int) != n) = false := by simpa using dn
      clear HB
      go_enter Tryd.func49, Tryd.ntmps49
      go_wp2_with fail
      refine wp_loop_rounds 1 ?_
      rw [rounds_succ]
      go_wp2_with fail
      go_ret
      exact ⟨by rw [← HB2.out]; rfl, (Old.refl _).alloc _⟩
    · have HC : Hid (∀ j, j < xs.length → w.cell? ⟨b, o + j, none⟩ = some (.int .i64 (xs.getD j 0))) := hc
      clear hc
      have RC0 : Hid (Rc (w.alloc (.cells #[.int .i64 p, .int .i64 n, .int .i64 r] 40)) w.heap.size p n r) := Rc.new w p n r
      go_enter Tryd.func49, Tryd.ntmps49
      go_wp2_with fail
      go_loopw [6, 14] (fun x i W => ∃ k : Nat, k ≤ xs.length ∧ i = .int .i64 k ∧ Hid ((xs.drop k).all (fun x => resB x p) = B) ∧ Hid (Old (w.alloc (.cells #[.int .i64 p, .int .i64 n, .int .i64 r] 40)) W)) (fun _ i _ => xs.length - (intOf i).toNat)
      case atStart => exact ⟨0, by omega, rfl, HB, Old.refl _⟩
      case round =>
        obtain ⟨k, hk, rfl, H1, HG⟩ := hrel
        clear HB
        have z0 := (RC0.out.old HG.out).c0
        have HW : Hid (Old w wr) := Old.trans ((Old.refl w).alloc _) HG.out
        by_cases hlt : k < xs.length
        · have d1 : decide ((k : Int) < (xs.length : Int)) = true := by simp; omega
          have c1 : wr.cell? ⟨b, o + k, none⟩ = some (.int .i64 (xs.getD k 0)) := (HW.out.cell (p := ⟨b, o + k, none⟩) hb).trans (HC.out k hlt)
          have H2 : Hid ((resB (xs.getD k 0) p && (xs.drop (k + 1)).all (fun x => resB x p)) = B) := by
            have := H1.out
            rw [List.drop_eq_getElem_cons hlt, List.all_cons] at this
            have e : xs.getD k 0 = xs[k] := by simp [List.getD, hlt]
            rw [e]
            exact this
          clear H1
          generalize xs.getD k 0 = x at *
          have c := fun W => spec_res x p W
          cases hx : resB x p
          · rw [hx] at c
            have H3 : Hid (false = B) := by have := H2.out; rw [hx] at this; exact this
            clear H2 hx
            go_wp2_with fail
            refine (c _).mono ?_
            rintro e w2 ⟨rfl, rfl⟩
            go_wp2_with fail
            go_ret
            exact ⟨by rw [← H3.out]; rfl, HW.out⟩
          · rw [hx] at c
            have H3 : Hid ((xs.drop (k + 1)).all (fun x => resB x p) = B) := by have := H2.out; rw [hx, Bool.true_and] at this; exact this
            clear H2 hx
            go_wp2_with fail
            refine (c _).mono ?_
            rintro e w2 ⟨rfl, rfl⟩
            go_wp2_with fail
            exact ⟨⟨k + 1, by omega, by go_num, H3, HG⟩, by simp [intOf]; omega⟩
        · have d1 : decide ((k : Int) < (xs.length : Int)) = false := by simp; omega
          have H3 : Hid (true = B) := by
            have := H1.out
            rw [List.drop_eq_nil_of_le (by omega)] at this
            exact this
          clear H1
          go_wp2_with fail
          go_ret
          exact ⟨by rw [← H3.out]; rfl, HW.out⟩
  · have HB : Hid (false = polyB p n xs) := by
      show _ = _
      simp [polyB, hn]
    generalize polyB p n xs = B at *
    have dn : ((xs.length : Int) != n) = true := by simp [hn]
    obtain ⟨a, cap, rfl⟩ := hv.slice
    clear hn hv
    go_enter Tryd.func49, Tryd.ntmps49
    go_wp2_with fail
    go_ret
    exact ⟨by rw [← HB.out]; rfl, (Old.refl _).alloc _⟩
abbrev toZ (ys : List Nat) : List Int := ys.map (fun (n : Nat) => (n : Int))
theorem polyB_yes {P N : Nat} {xs : List Int} (h : polyB P N xs = true) : ∃ ys : List Nat, xs = toZ ys ∧ ys.length = N ∧ ∀ y ∈ ys, y < P := by
  simp only [polyB, Bool.and_eq_true, decide_eq_true_eq, List.all_eq_true, resB] at h
  obtain ⟨h1, h2⟩ := h
  refine ⟨xs.map Int.toNat, ?_, by simp; omega, fun y hy => ?_⟩
  · rw [toZ, List.map_map]
    refine (List.map_id xs).symm.trans (List.map_congr_left fun x hx => ?_)
    have := h2 x hx
    simp
    omega
  · obtain ⟨x, hx, rfl⟩ := List.mem_map.1 hy
    have := h2 x hx
    omega
end Go.Proofs.YtglbegbhekcddaaDoor
/- Proved: the doors of the functions on rings: none where the ring, a list or a turn is not as said; what the function within answers otherwise. -/
namespace Go.Proofs.YtglbegbhekcddaaDoor
open Go.ChangeShapes Go.WideShapes Go.ChangeAt Go.RowKit
set_option linter.unusedVariables false
theorem own_nil (w : World) (base : Nat) : Own w base (.slice none 0 0) [] := ⟨rfl, Or.inl ⟨rfl, rfl⟩⟩
end Go.Proofs.YtglbegbhekcddaaDoor
/- Proved: the rings of a space, as the program makes them. -/
namespace Go.Proofs.YtglbegbhekcddaaDoor
open Go.ChangeShapes Go.WideShapes Go.ChangeAt Go.RowKit
open M1
set_option linter.unusedVariables false
set_option linter.unusedSimpArgs false
theorem Tryd.infoRing : (Tryd.prog.info? 40).map (fun i => (i.zero, i.size, i.bytes)) = some (some (.agg #[.int .i64 0, .int .i64 0, .int .i64 0]), 3, 24) := by kernel_rfl
def Rgs (W : World) (g : Nat) (N : Int) (xs : List Int) (Rf : Nat → Int) (k : Nat) : Prop :=
  ∃ ys : List Int, ys.length = 3 * xs.length ∧ W.ownsRow g 40 3 (.slice (some ⟨g, 0, none⟩) xs.length xs.length) xs.length (ys.map (Value.int .i64)) ∧ ∀ i, i < k → ys.getD (i * 3) 0 = xs.getD i 0 ∧ ys.getD (i * 3 + 1) 0 = N ∧ ys.getD (i * 3 + 2) 0 = Rf i
theorem Rgs.lt {W : World} {g : Nat} {N : Int} {xs : List Int} {Rf : Nat → Int} {k : Nat} (h : Rgs W g N xs Rf k) : g < W.heap.size := by
  obtain ⟨ys, _, ho, _⟩ := h
  exact (ho.lt g rfl).2
theorem Rgs.old {W W' : World} {g : Nat} {N : Int} {xs : List Int} {Rf : Nat → Int} {k : Nat} (h : Rgs W g N xs Rf k) (q : Old W W') : Rgs W' g N xs Rf k := by
  obtain ⟨ys, hl, ho, hy⟩ := h
  refine ⟨ys, hl, ⟨ho.1, ?_⟩, hy⟩
  rcases ho.2 with hn | ⟨p, cap, cur, e, hb, hgg, rest⟩
  · exact .inl hn
  · refine .inr ⟨p, cap, cur, e, hb, ?_, rest⟩
    rw [q.block p (Array.getElem?_eq_some_iff.1 hgg).1]
    exact hgg
theorem Rgs.cell {W : World} {g : Nat} {N : Int} {xs : List Int} {Rf : Nat → Int} {k : Nat} (h : Rgs W g N xs Rf k) (j : Nat) (hj : j < 3 * xs.length) : ∃ y : Int, W.cell? ⟨g, j, none⟩ = some (.int .i64 y) := by
  obtain ⟨ys, hl, ho, hy⟩ := h
  refine ⟨ys.getD j 0, ?_⟩
  rw [World.ownsRow.cellAt ho j (by omega)]
  simp [List.getD, hl, hj]
theorem Rgs.free {W : World} {g : Nat} {N : Int} {xs : List Int} {Rf : Nat → Int} {k : Nat} (h : Rgs W g N xs Rf k) (j : Nat) : W.frozen? ⟨g, j, none⟩ = false := by
  obtain ⟨ys, hl, ho, hy⟩ := h
  exact World.ownsRow.frozenAt ho j
theorem Rgs.at {W : World} {g : Nat} {N : Int} {xs : List Int} {Rf : Nat → Int} {k : Nat} (h : Rgs W g N xs Rf k) (i : Nat) (hi : i < k) (hx : i < xs.length) : W.cell? ⟨g, i * 3, none⟩ = some (.int .i64 (xs.getD i 0)) ∧ W.cell? ⟨g, i * 3 + 1, none⟩ = some (.int .i64 N) ∧ W.cell? ⟨g, i * 3 + 2, none⟩ = some (.int .i64 (Rf i)) := by
  obtain ⟨ys, hl, ho, hy⟩ := h
  obtain ⟨h0, h1, h2⟩ := hy i hi
  refine ⟨?_, ?_, ?_⟩
  · rw [World.ownsRow.cellAt ho (i * 3) (by omega), ← h0]
    simp [List.getD, hl, show i * 3 < 3 * xs.length by omega]
  · rw [World.ownsRow.cellAt ho (i * 3 + 1) (by omega), ← h1]
    simp [List.getD, hl, show i * 3 + 1 < 3 * xs.length by omega]
  · rw [World.ownsRow.cellAt ho (i * 3 + 2) (by omega), ← h2]
    simp [List.getD, hl, show i * 3 + 2 < 3 * xs.length by omega]
theorem getD_set_same (ys : List Int) (j : Nat) (y : Int) (h : j < ys.length) : (ys.set j y).getD j 0 = y := by simp [List.getD, h]
theorem getD_set_other (ys : List Int) (j i : Nat) (y : Int) (h : i ≠ j) : (ys.set j y).getD i 0 = ys.getD i 0 := by simp [List.getD, List.getElem?_set, Ne.symm h]
theorem Rgs.put {W : World} {g : Nat} {N : Int} {xs : List Int} {Rf : Nat → Int} {k : Nat} (h : Rgs W g N xs Rf k) (hk : k < xs.length) :
    Rgs (((W.setCell ⟨g, k * 3, none⟩ (.int .i64 (xs.getD k 0))).setCell ⟨g, k * 3 + 1, none⟩ (.int .i64 N)).setCell ⟨g, k * 3 + 2, none⟩ (.int .i64 (Rf k))) g N xs Rf (k + 1) := by
  obtain ⟨ys, hl, ho, hy⟩ := h
  have h1 := (World.ownsRow.stored ho (k * 3) (.int .i64 (xs.getD k 0))).1
  have h2 := (World.ownsRow.stored h1 (k * 3 + 1) (.int .i64 N)).1
  have h3 := (World.ownsRow.stored h2 (k * 3 + 2) (.int .i64 (Rf k))).1
  rw [← List.map_set, ← List.map_set, ← List.map_set] at h3
  refine ⟨_, by simp [hl], h3, fun i hi => ?_⟩
  rcases Nat.lt_or_ge i k with hlt | hge
  · obtain ⟨q0, q1, q2⟩ := hy i hlt
    refine ⟨?_, ?_, ?_⟩
    · rw [getD_set_other _ _ _ _ (by omega), getD_set_other _ _ _ _ (by omega), getD_set_other _ _ _ _ (by omega)]; exact q0
    · rw [getD_set_other _ _ _ _ (by omega), getD_set_other _ _ _ _ (by omega), getD_set_other _ _ _ _ (by omega)]; exact q1
    · rw [getD_set_other _ _ _ _ (by omega), getD_set_other _ _ _ _ (by omega), getD_set_other _ _ _ _ (by omega)]; exact q2
  · obtain rfl : i = k := by omega
    refine ⟨?_, ?_, ?_⟩
    · rw [getD_set_other _ _ _ _ (by omega), getD_set_other _ _ _ _ (by omega), getD_set_same _ _ _ (by omega)]
    · rw [getD_set_other _ _ _ _ (by omega), getD_set_same _ _ _ (by simp; omega)]
    · rw [getD_set_same _ _ _ (by simp; omega)]
theorem made_rings (n : Nat) : ∃ ys : List Int, ys.length = 3 * n ∧ (madeCells (Value.agg #[.int .i64 0, .int .i64 0, .int .i64 0]).cells (n * 3)).toList = ys.map (Value.int .i64) := by
  refine ⟨List.replicate (3 * n) 0, by simp, ?_⟩
  have hz : ∀ i : Nat, (#[Value.int .i64 0, Value.int .i64 0, Value.int .i64 0] : Array Value)[i % 3]! = Value.int .i64 0 := fun i => by
    have h3 : i % 3 = 0 ∨ i % 3 = 1 ∨ i % 3 = 2 := by omega
    rcases h3 with h | h | h <;> rw [h] <;> rfl
  rw [List.map_replicate]
  refine List.eq_replicate_iff.2 ⟨by simp [size_madeCells]; omega, fun b hb => ?_⟩
  unfold madeCells at hb
  simp only [Array.toList_map, List.mem_map] at hb
  obtain ⟨x, _, rfl⟩ := hb
  exact hz x
theorem Rings_roots (N : Int) (xs : List Int) : ∃ Rf : Nat → Int, ∀ k, RingOk (xs.getD k 0) N → (0 ≤ Rf k ∧ Rf k < xs.getD k 0) ∧ (∀ W, PrsW W → TabW W → Calls Tryd.prog 60 #[.int .i64 (xs.getD k 0), .int .i64 N] W fun e w' => e = .returned (.tuple #[.agg #[.int .i64 (xs.getD k 0), .int .i64 N, .int .i64 (Rf k)], .bool true]) ∧ Old W w') := by
  have h : ∀ k, ∃ R : Int, RingOk (xs.getD k 0) N → (0 ≤ R ∧ R < xs.getD k 0) ∧ (∀ W, PrsW W → TabW W → Calls Tryd.prog 60 #[.int .i64 (xs.getD k 0), .int .i64 N] W fun e w' => e = .returned (.tuple #[.agg #[.int .i64 (xs.getD k 0), .int .i64 N, .int .i64 R], .bool true]) ∧ Old W w') := fun k => by
    by_cases hk : RingOk (xs.getD k 0) N
    · obtain ⟨R, h1, h2⟩ := Ring_impl _ _ hk
      exact ⟨R, fun _ => ⟨h1, h2⟩⟩
    · exact ⟨0, fun h => absurd h hk⟩
  exact Classical.skolem.1 h
end Go.Proofs.YtglbegbhekcddaaDoor
/- Proved: the contract of the program's ringsOf. -/
namespace Go.Proofs.YtglbegbhekcddaaDoor
open Go.ChangeShapes Go.WideShapes Go.ChangeAt Go.RowKit
open M1
set_option linter.unusedVariables false
set_option linter.unusedSimpArgs false
theorem cellO (W : World) (p : Addr) (v : Value) (q : Addr) (h : q.block ≠ p.block) : (W.setCell p v).cell? q = W.cell? q := World.cell?_of_block (heap_setCell_other W p q.block v h)
set_option maxRecDepth 100000 in
set_option maxHeartbeats 4000000 in
theorem impl_rings (N : Int) (xs : List Int) (Rf : Nat → Int) (v : Value) (w : World) (hP : PrsW w) (hT : TabW w) (hv : Row w v xs) (hf : Fit v) (hl : xs.length ≤ 9223372036854775807)
    (hRf : ∀ k, RingOk (xs.getD k 0) N → (0 ≤ Rf k ∧ Rf k < xs.getD k 0) ∧ (∀ W, PrsW W → TabW W → Calls Tryd.prog 60 #[.int .i64 (xs.getD k 0), .int .i64 N] W fun e w' => e = .returned (.tuple #[.agg #[.int .i64 (xs.getD k 0), .int .i64 N, .int .i64 (Rf k)], .bool true]) ∧ Old W w')) :
    Calls Tryd.prog 45 #[.agg #[.int .i64 N, v]] w fun e w' => Old w w' ∧ ((spB N xs = false ∧ e = .returned (.tuple #[.slice none 0 0, .bool false])) ∨ (spB N xs = true ∧ ∃ g, w.heap.size ≤ g ∧ e = .returned (.tuple #[.slice (some ⟨g, 0, none⟩) xs.length xs.length, .bool true]) ∧ Rgs w' g N xs Rf xs.length)) := by
  have cb := fun W v (h1 : PrsW W) (h2 : TabW W) (h : Row W v xs) (f : Fit v) => impl_goodBasis xs v W h1 h2 h f hl
  have HP : Hid (PrsW w) := hP
  have HT : Hid (TabW w) := hT
  have HV : Hid (Row w v xs) := hv
  have HF : Hid (Fit v) := hf
  have HRF : Hid (∀ k, RingOk (xs.getD k 0) N → (0 ≤ Rf k ∧ Rf k < xs.getD k 0) ∧ (∀ W, PrsW W → TabW W → Calls Tryd.prog 60 #[.int .i64 (xs.getD k 0), .int .i64 N] W fun e w' => e = .returned (.tuple #[.agg #[.int .i64 (xs.getD k 0), .int .i64 N, .int .i64 (Rf k)], .bool true]) ∧ Old W w')) := hRf
  obtain ⟨a0, cap0, ev⟩ := hv.slice
  subst ev
  have HN : Hid (Old w (w.alloc (.cells #[.int .i64 N, .slice a0 xs.length cap0] 25))) := (Old.refl w).alloc _
  clear hP hT hv hf hRf
  cases hb : basB xs
  · rw [hb] at cb
    have HB : Hid (spB N xs = false) := by show spB N xs = false; unfold spB; rw [hb]; simp
    clear hb
    go_enter Tryd.func45, Tryd.ntmps45
    go_wp2_with fail
    refine (cb _ _ (HP.out.old HN.out) (HT.out.old HN.out) (HV.out.old HN.out) HF.out).mono ?_
    rintro e w1 ⟨rfl, g1⟩
    have HG1 : Hid (Old w w1) := Old.trans HN.out g1
    clear g1
    go_wp2_with fail
    exact bodyPost_ret (v := .tuple #[.slice none 0 0, .bool false]) (by simp [results, Tryd.results45, go_sem]) rfl ⟨HG1.out, Or.inl ⟨HB.out, rfl⟩⟩
  · rw [hb] at cb
    have HBB : Hid (basB xs = true) := hb
    have hlen := (bas_at hb).1
    obtain ⟨i0, hi, hz0, hz1, hz2⟩ := info_parts Tryd.infoRing
    clear hb
    go_enter Tryd.func45, Tryd.ntmps45
    go_wp2_with fail
    refine (cb _ _ (HP.out.old HN.out) (HT.out.old HN.out) (HV.out.old HN.out) HF.out).mono ?_
    rintro e w1 ⟨rfl, g1⟩
    have HG1 : Hid (Old w w1) := Old.trans HN.out g1
    have HS1 : Hid (w1.cell? ⟨w.heap.size, 0, none⟩ = some (.int .i64 N) ∧ w1.cell? ⟨w.heap.size, 1, none⟩ = some (.slice a0 xs.length cap0)) := ⟨(g1.cell (p := ⟨w.heap.size, 0, none⟩) (by simp)).trans (cell_at _ _ _ _ _ rfl), (g1.cell (p := ⟨w.heap.size, 1, none⟩) (by simp)).trans (cell_at _ _ _ _ _ rfl)⟩
    have hs1 : w.heap.size < w1.heap.size := by have := g1.size; simp at this; omega
    clear g1 cb
    rcases (HV.out) with ⟨a, cap, e, e2⟩ | ⟨b, o, cap, e, hb, h1, hc⟩
    · subst e2
      simp at hlen
    simp only [Value.slice.injEq, true_and] at e
    obtain ⟨rfl, rfl⟩ := e
    have HC : Hid (∀ j, j < xs.length → w.cell? ⟨b, o + j, none⟩ = some (.int .i64 (xs.getD j 0))) := hc
    clear hc
    have s0 := HS1.out.1
    have s1 := HS1.out.2
    go_wp2_with (at_make; refine wpList_make_full _ rfl _ _ 71 rfl w1.heap.size 40 i0 (.agg #[.int .i64 0, .int .i64 0, .int .i64 0]) 3 Tryd.underlying71 hi hz0 hz1 .i64 .i64 _ _ xs.length rfl rfl rfl rfl (by rw [hz2]; omega) (by unfold maxLen; omega) (Nat.le_refl _) ?_; intro w2 hown hgrow; have s0' : w2.cell? ⟨w.heap.size, 0, none⟩ = some (.int .i64 N) := ((grownBy_old hgrow).cell (p := ⟨w.heap.size, 0, none⟩) hs1).trans s0; have s1' : w2.cell? ⟨w.heap.size, 1, none⟩ = some (.slice (some ⟨b, o, none⟩) xs.length cap0) := ((grownBy_old hgrow).cell (p := ⟨w.heap.size, 1, none⟩) hs1).trans s1)
    obtain ⟨ys, hyl, hym⟩ := made_rings xs.length
    rw [hym] at hown
    have HRG : Hid (Rgs w2 w1.heap.size N xs Rf 0) := ⟨ys, hyl, hown, fun i hi => by omega⟩
    have HG2 : Hid (Old w w2) := Old.trans HG1.out (grownBy_old hgrow)
    have HS2 : Hid (w2.cell? ⟨w.heap.size, 0, none⟩ = some (.int .i64 N) ∧ w2.cell? ⟨w.heap.size, 1, none⟩ = some (.slice (some ⟨b, o, none⟩) xs.length cap0)) := ⟨s0', s1'⟩
    clear hown hgrow s0' s1' s0 s1 HS1 hym hyl
    go_loopw [20] (fun i W => ∃ k : Nat, k ≤ xs.length ∧ i = .int .i64 k ∧ Hid (∀ j, j < k → RingOk (xs.getD j 0) N) ∧ Hid (Rgs W w1.heap.size N xs Rf k) ∧ Hid (Old w W) ∧ Hid (W.cell? ⟨w.heap.size, 0, none⟩ = some (.int .i64 N) ∧ W.cell? ⟨w.heap.size, 1, none⟩ = some (.slice (some ⟨b, o, none⟩) xs.length cap0))) (fun i _ => xs.length - (intOf i).toNat)
    case atStart => exact ⟨0, by omega, rfl, fun j hj => by omega, HRG, HG2, HS2⟩
    case round =>
      obtain ⟨k, hk, rfl, H1, HR, HG, HS⟩ := hrel
      clear HRG HG2 HS2
      by_cases hlt : k < xs.length
      · have d1 : decide ((k : Int) < (xs.length : Int)) = true := by simp; omega
        have c1 : wr.cell? ⟨b, o + k, none⟩ = some (.int .i64 (xs.getD k 0)) := (HG.out.cell (p := ⟨b, o + k, none⟩) hb).trans (HC.out k hlt)
        have s0 := HS.out.1
        have s1 := HS.out.2
        have hsr : w.heap.size < wr.heap.size := by have := HR.out.lt; omega
        by_cases hok : RingOk (xs.getD k 0) N
        · have cr := (HRF.out k hok).2
          have H2 : Hid (∀ j, j < k + 1 → RingOk (xs.getD j 0) N) := fun j hj => by
            rcases Nat.lt_or_ge j k with h | h
            · exact H1.out j h
            · obtain rfl : j = k := by omega
              exact hok
          have HPUT : Hid (∀ W, Rgs W w1.heap.size N xs Rf k → Rgs (((W.setCell ⟨w1.heap.size, k * 3, none⟩ (.int .i64 (xs.getD k 0))).setCell ⟨w1.heap.size, k * 3 + 1, none⟩ (.int .i64 N)).setCell ⟨w1.heap.size, k * 3 + 2, none⟩ (.int .i64 (Rf k))) w1.heap.size N xs Rf (k + 1)) := fun W h => h.put hlt
          have HCR : Hid (∀ W, PrsW W → TabW W → Calls Tryd.prog 60 #[.int .i64 (xs.getD k 0), .int .i64 N] W fun e w' => e = .returned (.tuple #[.agg #[.int .i64 (xs.getD k 0), .int .i64 N, .int .i64 (Rf k)], .bool true]) ∧ Old W w') := cr
          clear H1 hok cr
          generalize xs.getD k 0 = p at *
          obtain ⟨r, hr⟩ : ∃ r, Rf k = r := ⟨_, rfl⟩
          rw [hr] at HPUT HCR
          clear hr
          go_wp2_with fail
          refine (HCR.out _ (HP.out.old HG.out) (HT.out.old HG.out)).mono ?_
          rintro e w3 ⟨rfl, g3⟩
          have g4 : Old wr (w3.alloc (.cells #[.int .i64 p, .int .i64 N, .int .i64 r] 40)) := g3.alloc _
          have HR4 : Hid (Rgs (w3.alloc (.cells #[.int .i64 p, .int .i64 N, .int .i64 r] 40)) w1.heap.size N xs Rf k) := HR.out.old g4
          have HG4 : Hid (Old w (w3.alloc (.cells #[.int .i64 p, .int .i64 N, .int .i64 r] 40))) := Old.trans HG.out g4
          have HS4 : Hid ((w3.alloc (.cells #[.int .i64 p, .int .i64 N, .int .i64 r] 40)).cell? ⟨w.heap.size, 0, none⟩ = some (.int .i64 N) ∧ (w3.alloc (.cells #[.int .i64 p, .int .i64 N, .int .i64 r] 40)).cell? ⟨w.heap.size, 1, none⟩ = some (.slice (some ⟨b, o, none⟩) xs.length cap0)) := ⟨(g4.cell (p := ⟨w.heap.size, 0, none⟩) hsr).trans HS.out.1, (g4.cell (p := ⟨w.heap.size, 1, none⟩) hsr).trans HS.out.2⟩
          obtain ⟨y0, q0⟩ := HR4.out.cell (k * 3) (by omega)
          obtain ⟨y1, q1⟩ := HR4.out.cell (k * 3 + 1) (by omega)
          obtain ⟨y2, q2⟩ := HR4.out.cell (k * 3 + 2) (by omega)
          have f0 := HR4.out.free (k * 3)
          have f1 := HR4.out.free (k * 3 + 1)
          have f2 := HR4.out.free (k * 3 + 2)
          clear g3 g4 s0 s1 c1
          have hne : w.heap.size ≠ w1.heap.size := by omega
          have HS5 : Hid (((((w3.alloc (.cells #[.int .i64 p, .int .i64 N, .int .i64 r] 40)).setCell ⟨w1.heap.size, k * 3, none⟩ (.int .i64 p)).setCell ⟨w1.heap.size, k * 3 + 1, none⟩ (.int .i64 N)).setCell ⟨w1.heap.size, k * 3 + 2, none⟩ (.int .i64 r)).cell? ⟨w.heap.size, 0, none⟩ = some (.int .i64 N) ∧ ((((w3.alloc (.cells #[.int .i64 p, .int .i64 N, .int .i64 r] 40)).setCell ⟨w1.heap.size, k * 3, none⟩ (.int .i64 p)).setCell ⟨w1.heap.size, k * 3 + 1, none⟩ (.int .i64 N)).setCell ⟨w1.heap.size, k * 3 + 2, none⟩ (.int .i64 r)).cell? ⟨w.heap.size, 1, none⟩ = some (.slice (some ⟨b, o, none⟩) xs.length cap0)) := ⟨(cellO _ _ _ _ hne).trans ((cellO _ _ _ _ hne).trans ((cellO _ _ _ _ hne).trans HS4.out.1)), (cellO _ _ _ _ hne).trans ((cellO _ _ _ _ hne).trans ((cellO _ _ _ _ hne).trans HS4.out.2))⟩
          clear hne
          go_wp2_with fail
          exact ⟨⟨k + 1, by omega, by go_num, H2, HPUT.out _ HR4.out, ((HG4.out.own (p := ⟨w1.heap.size, k * 3, none⟩) (by show w.heap.size ≤ w1.heap.size; omega) _).own (p := ⟨w1.heap.size, k * 3 + 1, none⟩) (by show w.heap.size ≤ w1.heap.size; omega) _).own (p := ⟨w1.heap.size, k * 3 + 2, none⟩) (by show w.heap.size ≤ w1.heap.size; omega) _, HS5⟩, by simp [intOf]; omega⟩
        · have cr := fun W (h1 : PrsW W) (h2 : TabW W) => impl_RingOf_no (xs.getD k 0) N W h1 h2 hok
          have HB : Hid (spB N xs = false) := sp_not HBB.out hlt hok
          clear H1 hok
          generalize xs.getD k 0 = p at *
          go_wp2_with fail
          refine (cr _ (HP.out.old HG.out) (HT.out.old HG.out)).mono ?_
          rintro e w3 ⟨rfl, g3⟩
          have HG4 : Hid (Old w (w3.alloc (.cells ring0 40))) := Old.trans HG.out (g3.alloc _)
          clear g3 cr s0 s1 c1
          go_wp2_with fail
          exact bodyPost_ret (v := .tuple #[.slice none 0 0, .bool false]) (by simp [results, Tryd.results45, go_sem]) rfl ⟨HG4.out, Or.inl ⟨HB.out, rfl⟩⟩
      · have d1 : decide ((k : Int) < (xs.length : Int)) = false := by simp; omega
        obtain rfl : k = xs.length := by omega
        have HB : Hid (spB N xs = true) := sp_all HBB.out H1.out
        clear H1
        go_wp2_with fail
        exact bodyPost_ret (v := .tuple #[.slice (some ⟨w1.heap.size, 0, none⟩) xs.length xs.length, .bool true]) (by simp [results, Tryd.results45, go_sem]) rfl ⟨HG.out, Or.inr ⟨HB.out, w1.heap.size, by omega, rfl, HR.out⟩⟩
end Go.Proofs.YtglbegbhekcddaaDoor
/- Proved: the modulus of a good ring is a prime. -/
namespace Go.Proofs.YtglbegbhekcddaaDoor
open Go.ChangeShapes Go.WideShapes Go.ChangeAt Go.RowKit
set_option linter.unusedVariables false
theorem no_28 : isP 268435456 = false := by decide +kernel
theorem ring_pr {P N : Nat} (h : RingOk P N) : F1.Pr P := by
  have h1 := modB_yes h.md
  have h2 := h.pr
  rw [Int.toNat_natCast] at h2
  refine F1.pr_of_isP P h2 ?_
  have hn : P ≠ 268435456 := fun e => by
    rw [e, no_28] at h2
    cases h2
  omega
end Go.Proofs.YtglbegbhekcddaaDoor
/- Proved: a root for each prime of a space, as the program makes it, of the full order. -/
namespace Go.Proofs.YtglbegbhekcddaaDoor
open Go.ChangeShapes Go.WideShapes Go.ChangeAt Go.RowKit
open M1
set_option linter.unusedVariables false
set_option linter.unusedSimpArgs false
theorem Root_rt (p n : Nat) (h : RootOk p n) : ∃ R : Nat, R < p ∧ (F1.Pr p → Rt p n R)
    ∧ (∀ W, PrsW W → TabW W → Calls Tryd.prog 71 #[.int .i64 p, .int .i64 n] W fun e w' => e = .returned (.tuple #[.int .i64 R, .bool true]) ∧ ∃ k, w' = W.drewN k) := by
  obtain ⟨j, hj⟩ := ordB_pow n h.ord
  obtain ⟨b1, b2, b3⟩ := ordB_yes n h.ord
  obtain ⟨m1, m2⟩ := modB_yes h.md
  have hdv : (p - 1) % n = 0 := by
    have h1 := h.dv
    have e : (p : Int) - 1 = ((p - 1 : Nat) : Int) := by omega
    rw [e] at h1
    have h2 : (((p - 1) % n : Nat) : Int) = 0 := by rw [← h1]; simp
    omega
  have en := Nat.div_add_mod (p - 1) n
  rw [hdv, Nat.add_zero] at en
  have hp3 : 3 ≤ p := by
    rcases Nat.lt_or_ge p 3 with hlt | hge
    · exfalso
      have h2 : p = 2 := by omega
      rw [h2, Nat.mod_eq_of_lt (by omega)] at hdv
      omega
    · exact hge
  obtain ⟨hh, ehh⟩ : ∃ hh, hh = n / 2 := ⟨_, rfl⟩
  have hn2 : n = 2 * hh := by omega
  have em : (p - 1) / n * hh = (p - 1) / 2 := by
    have h1 : 2 * ((p - 1) / n * hh) = p - 1 := by
      rw [← en, hn2]
      have := en
      rw [hn2] at this
      rw [this, ← this]
      grind
    omega
  have hpm : p = 2 * ((p - 1) / 2) + 1 := by
    have h1 : 2 * ((p - 1) / n * hh) = p - 1 := by
      have := en
      rw [hn2] at this
      rw [hn2, ← this]
      have e3 : (2 * hh * ((p - 1) / (2 * hh))) / (2 * hh) = (p - 1) / (2 * hh) := Nat.mul_div_cancel_left _ (by omega)
      rw [e3]
      grind
    omega
  obtain ⟨A, hA2, hAp, hmin, hA⟩ := first_ex p ((p - 1) / 2) (by omega) (by omega)
  have hr := powM_lt (A % p) ((p - 1) / n) p (by omega)
  refine ⟨_, ?_, ?_, fun W h1 h2 => impl_RootOf_yes p n _ _ W h1 h2 h hr (fun W => impl_someRoot p n _ _ A W hp3 (by omega) rfl rfl (by omega) b2 hA2 hAp hmin hA) (fun W => impl_leastRoot _ p n W (by omega) (by omega) hr b1 b2)⟩
  · exact lr_lt p _ (by omega) _ _ _ hr
  · intro hPr
    have facts := F1.least_root (p := p) (n := n) (j := j) (A := A) (e := (p - 1) / n) hPr hp3 hj (by rw [← ehh]; exact em) hpm hA2 (fun b hb1 hb2 => by have := hmin b hb1 hb2; rwa [powM_mod] at this) (by rwa [powM_mod] at hA) (powM (A % p) ((p - 1) / n) p) _ (powM_mod _ _ _) rfl
    exact ⟨facts.2.2.1, facts.1, neg_of hPr hp3 (by omega) facts.1 facts.2.1⟩
theorem Rings_rt (N : Int) (xs : List Int) : ∃ Rf : Nat → Int, ∀ k, RingOk (xs.getD k 0) N → ((0 ≤ Rf k ∧ Rf k < xs.getD k 0) ∧ (∀ W, PrsW W → TabW W → Calls Tryd.prog 60 #[.int .i64 (xs.getD k 0), .int .i64 N] W fun e w' => e = .returned (.tuple #[.agg #[.int .i64 (xs.getD k 0), .int .i64 N, .int .i64 (Rf k)], .bool true]) ∧ Old W w'))
    ∧ ∃ P M R : Nat, xs.getD k 0 = P ∧ N = M ∧ Rf k = R ∧ R < P ∧ RingOk P M ∧ (F1.Pr P → Rt P (2 * M) R) := by
  have h : ∀ k, ∃ Rk : Int, RingOk (xs.getD k 0) N → ((0 ≤ Rk ∧ Rk < xs.getD k 0) ∧ (∀ W, PrsW W → TabW W → Calls Tryd.prog 60 #[.int .i64 (xs.getD k 0), .int .i64 N] W fun e w' => e = .returned (.tuple #[.agg #[.int .i64 (xs.getD k 0), .int .i64 N, .int .i64 Rk], .bool true]) ∧ Old W w'))
      ∧ ∃ P M R : Nat, xs.getD k 0 = P ∧ N = M ∧ Rk = R ∧ R < P ∧ RingOk P M ∧ (F1.Pr P → Rt P (2 * M) R) := fun k => by
    by_cases hk : RingOk (xs.getD k 0) N
    · have h1 := modB_yes hk.md
      have h2 := hk.sz
      obtain ⟨P, hP⟩ := Int.eq_ofNat_of_zero_le (show 0 ≤ xs.getD k 0 by omega)
      obtain ⟨M, hM⟩ := Int.eq_ofNat_of_zero_le (show 0 ≤ N by omega)
      rw [hP, hM] at hk ⊢
      obtain ⟨R, r1, r2, r3⟩ := Root_rt P (2 * M) (by have := hk.root; exact_mod_cast this)
      have e : ((2 * M : Nat) : Int) = 2 * (M : Int) := by omega
      rw [e] at r3
      exact ⟨R, fun _ => ⟨⟨by omega, fun W a b => impl_RingOf_yes P M R W a b hk.sz r3⟩, P, M, R, rfl, rfl, rfl, r1, hk, r2⟩⟩
    · exact ⟨0, fun h => absurd h hk⟩
  exact Classical.skolem.1 h
end Go.Proofs.YtglbegbhekcddaaDoor
