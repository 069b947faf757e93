/- Proved: whether a list is a polynomial of a ring, of the program and of the model. -/
import Derived.Test.YtplaaglckbfklaaDoorSlA
import Derived.Test.YtplaaglckbfklaaDoorBack
namespace Go.Proofs.YtplaaglckbfklaaDoor
open Go.ChangeShapes Go.WideShapes Go.ChangeAt Go.RowKit
set_option linter.unusedVariables false
/-- as many numbers as the ring asks for, each below its prime -/
def polyB (p n : Int) (xs : List Int) : Bool := decide ((xs.length : Int) = n) && xs.all (fun x => resB x p)
theorem in_res (x p : Int) : inB x 0 (p - 1) = resB x p := by
  rw [Bool.eq_iff_iff]
  simp [inB, resB]
  omega
theorem spec_res (x p : Int) (w : World) : Calls Tryd.prog 114 #[.int .i64 x, .int .i64 0, .int .i64 (p - 1)] w fun e w' => e = .returned (.bool (resB x p)) ∧ w' = w := by
  rw [← in_res]
  exact spec_in x 0 (p - 1) w
set_option maxHeartbeats 1000000 in
theorem impl_poly (p n r : Int) (xs : List Int) (v : Value) (w : World) (hv : Row w v xs) (hl : xs.length ≤ 9223372036854775807) (hp : 2 ≤ p ∧ p ≤ 268435456) :
    Calls Tryd.prog 96 #[.agg #[.int .i64 p, .int .i64 n, .int .i64 r], v] w fun e w' => e = .returned (.bool (polyB p n xs)) ∧ Old w w' := by
  by_cases hn : (xs.length : Int) = n
  · have HB : Hid ((xs.drop 0).all (fun x => resB x p) = polyB p n xs) := by
      show _ = _
      simp [polyB, hn]
    generalize polyB p n xs = B at *
    have dn : ((xs.length : Int) != n) = false := by simp [hn]
    clear hn
    rcases hv with ⟨a, cap, rfl, rfl⟩ | ⟨b, o, cap, rfl, hb, h0, hc⟩
    · have HB2 : Hid (true = B) := HB.out
      have dn0 : ((0 : Int) != n) = false := by simpa using dn
      clear HB
      go_enter Tryd.func96, Tryd.ntmps96
      go_wp2_with fail
      refine wp_loop_rounds 1 ?_
      rw [rounds_succ]
      go_wp2_with fail
      go_ret
      exact ⟨by rw [← HB2.out]; rfl, (Old.refl _).alloc _⟩
    · have HC : Hid (∀ j, j < xs.length → w.cell? ⟨b, o + j, none⟩ = some (.int .i64 (xs.getD j 0))) := hc
      clear hc
      have RC0 : Hid (Rc (w.alloc (.cells #[.int .i64 p, .int .i64 n, .int .i64 r] 39)) w.heap.size p n r) := Rc.new w p n r
      go_enter Tryd.func96, Tryd.ntmps96
      go_wp2_with fail
      go_loopw [6, 14] (fun x i W => ∃ k : Nat, k ≤ xs.length ∧ i = .int .i64 k ∧ Hid ((xs.drop k).all (fun x => resB x p) = B) ∧ Hid (Old (w.alloc (.cells #[.int .i64 p, .int .i64 n, .int .i64 r] 39)) W)) (fun _ i _ => xs.length - (intOf i).toNat)
      case atStart => exact ⟨0, by omega, rfl, HB, Old.refl _⟩
      case round =>
        obtain ⟨k, hk, rfl, H1, HG⟩ := hrel
        clear HB
        have z0 := (RC0.out.old HG.out).c0
        have HW : Hid (Old w wr) := Old.trans ((Old.refl w).alloc _) HG.out
        by_cases hlt : k < xs.length
        · have d1 : decide ((k : Int) < (xs.length : Int)) = true := by simp; omega
          have c1 : wr.cell? ⟨b, o + k, none⟩ = some (.int .i64 (xs.getD k 0)) := (HW.out.cell (p := ⟨b, o + k, none⟩) hb).trans (HC.out k hlt)
          have H2 : Hid ((resB (xs.getD k 0) p && (xs.drop (k + 1)).all (fun x => resB x p)) = B) := by
            have := H1.out
            rw [List.drop_eq_getElem_cons hlt, List.all_cons] at this
            have e : xs.getD k 0 = xs[k] := by simp [List.getD, hlt]
            rw [e]
            exact this
          clear H1
          generalize xs.getD k 0 = x at *
          have c := fun W => residue_any x p W
          cases hx : resB x p
          · rw [hx] at c
            have H3 : Hid (false = B) := by have := H2.out; rw [hx] at this; exact this
            clear H2 hx
            go_wp2_with fail
            refine (c _).mono ?_
            rintro e w2 ⟨rfl, rfl⟩
            go_wp2_with fail
            go_ret
            exact ⟨by rw [← H3.out]; rfl, HW.out⟩
          · rw [hx] at c
            have H3 : Hid ((xs.drop (k + 1)).all (fun x => resB x p) = B) := by have := H2.out; rw [hx, Bool.true_and] at this; exact this
            clear H2 hx
            go_wp2_with fail
            refine (c _).mono ?_
            rintro e w2 ⟨rfl, rfl⟩
            go_wp2_with fail
            exact ⟨⟨k + 1, by omega, by go_num, H3, HG⟩, by simp [intOf]; omega⟩
        · have d1 : decide ((k : Int) < (xs.length : Int)) = false := by simp; omega
          have H3 : Hid (true = B) := by
            have := H1.out
            rw [List.drop_eq_nil_of_le (by omega)] at this
            exact this
          clear H1
          go_wp2_with fail
          go_ret
          exact ⟨by rw [← H3.out]; rfl, HW.out⟩
  · have HB : Hid (false = polyB p n xs) := by
      show _ = _
      simp [polyB, hn]
    generalize polyB p n xs = B at *
    have dn : ((xs.length : Int) != n) = true := by simp [hn]
    obtain ⟨a, cap, rfl⟩ := hv.slice
    clear hn hv
    go_enter Tryd.func96, Tryd.ntmps96
    go_wp2_with fail
    go_ret
    exact ⟨by rw [← HB.out]; rfl, (Old.refl _).alloc _⟩
set_option maxHeartbeats 1000000 in
theorem spec_poly (p n r : Int) (xs : List Int) (v : Value) (w : World) (hv : Row w v xs) (hl : xs.length ≤ 9223372036854775807) (hp : 2 ≤ p ∧ p ≤ 268435456) :
    Calls Tryd.prog 101 #[.agg #[.int .i64 p, .int .i64 n, .int .i64 r], v] w fun e w' => e = .returned (.bool (polyB p n xs)) ∧ Old w w' := by
  by_cases hn : (xs.length : Int) = n
  · have HB : Hid ((xs.drop 0).all (fun x => resB x p) = polyB p n xs) := by
      show _ = _
      simp [polyB, hn]
    generalize polyB p n xs = B at *
    have dn : ((xs.length : Int) != n) = false := by simp [hn]
    clear hn
    rcases hv with ⟨a, cap, rfl, rfl⟩ | ⟨b, o, cap, rfl, hb, h0, hc⟩
    · have HB2 : Hid (true = B) := HB.out
      have dn0 : ((0 : Int) != n) = false := by simpa using dn
      clear HB
      go_enter Tryd.func101, Tryd.ntmps101
      go_wp2_with fail
      refine wp_loop_rounds 1 ?_
      rw [rounds_succ]
      go_wp2_with fail
      go_ret
      exact ⟨by rw [← HB2.out]; rfl, (Old.refl _).alloc _⟩
    · have HC : Hid (∀ j, j < xs.length → w.cell? ⟨b, o + j, none⟩ = some (.int .i64 (xs.getD j 0))) := hc
      clear hc
      have RC0 : Hid (Rc (w.alloc (.cells #[.int .i64 p, .int .i64 n, .int .i64 r] 39)) w.heap.size p n r) := Rc.new w p n r
      go_enter Tryd.func101, Tryd.ntmps101
      go_wp2_with fail
      go_loopw [6, 14] (fun x i W => ∃ k : Nat, k ≤ xs.length ∧ i = .int .i64 k ∧ Hid ((xs.drop k).all (fun x => resB x p) = B) ∧ Hid (Old (w.alloc (.cells #[.int .i64 p, .int .i64 n, .int .i64 r] 39)) W)) (fun _ i _ => xs.length - (intOf i).toNat)
      case atStart => exact ⟨0, by omega, rfl, HB, Old.refl _⟩
      case round =>
        obtain ⟨k, hk, rfl, H1, HG⟩ := hrel
        clear HB
        have z0 := (RC0.out.old HG.out).c0
        have HW : Hid (Old w wr) := Old.trans ((Old.refl w).alloc _) HG.out
        by_cases hlt : k < xs.length
        · have d1 : decide ((k : Int) < (xs.length : Int)) = true := by simp; omega
          have c1 : wr.cell? ⟨b, o + k, none⟩ = some (.int .i64 (xs.getD k 0)) := (HW.out.cell (p := ⟨b, o + k, none⟩) hb).trans (HC.out k hlt)
          have H2 : Hid ((resB (xs.getD k 0) p && (xs.drop (k + 1)).all (fun x => resB x p)) = B) := by
            have := H1.out
            rw [List.drop_eq_getElem_cons hlt, List.all_cons] at this
            have e : xs.getD k 0 = xs[k] := by simp [List.getD, hlt]
            rw [e]
            exact this
          clear H1
          generalize xs.getD k 0 = x at *
          have c := fun W => spec_res x p W
          cases hx : resB x p
          · rw [hx] at c
            have H3 : Hid (false = B) := by have := H2.out; rw [hx] at this; exact this
            clear H2 hx
            go_wp2_with fail
            refine (c _).mono ?_
            rintro e w2 ⟨rfl, rfl⟩
            go_wp2_with fail
            go_ret
            exact ⟨by rw [← H3.out]; rfl, HW.out⟩
          · rw [hx] at c
            have H3 : Hid ((xs.drop (k + 1)).all (fun x => resB x p) = B) := by have := H2.out; rw [hx, Bool.true_and] at this; exact this
            clear H2 hx
            go_wp2_with fail
            refine (c _).mono ?_
            rintro e w2 ⟨rfl, rfl⟩
            go_wp2_with fail
            exact ⟨⟨k + 1, by omega, by go_num, H3, HG⟩, by simp [intOf]; omega⟩
        · have d1 : decide ((k : Int) < (xs.length : Int)) = false := by simp; omega
          have H3 : Hid (true = B) := by
            have := H1.out
            rw [List.drop_eq_nil_of_le (by omega)] at this
            exact this
          clear H1
          go_wp2_with fail
          go_ret
          exact ⟨by rw [← H3.out]; rfl, HW.out⟩
  · have HB : Hid (false = polyB p n xs) := by
      show _ = _
      simp [polyB, hn]
    generalize polyB p n xs = B at *
    have dn : ((xs.length : Int) != n) = true := by simp [hn]
    obtain ⟨a, cap, rfl⟩ := hv.slice
    clear hn hv
    go_enter Tryd.func101, Tryd.ntmps101
    go_wp2_with fail
    go_ret
    exact ⟨by rw [← HB.out]; rfl, (Old.refl _).alloc _⟩
/-- a list of numbers below the prime -/
abbrev toZ (ys : List Nat) : List Int := ys.map (fun (n : Nat) => (n : Int))
theorem polyB_yes {P N : Nat} {xs : List Int} (h : polyB P N xs = true) : ∃ ys : List Nat, xs = toZ ys ∧ ys.length = N ∧ ∀ y ∈ ys, y < P := by
  simp only [polyB, Bool.and_eq_true, decide_eq_true_eq, List.all_eq_true, resB] at h
  obtain ⟨h1, h2⟩ := h
  refine ⟨xs.map Int.toNat, ?_, by simp; omega, fun y hy => ?_⟩
  · rw [toZ, List.map_map]
    refine (List.map_id xs).symm.trans (List.map_congr_left fun x hx => ?_)
    have := h2 x hx
    simp
    omega
  · obtain ⟨x, hx, rfl⟩ := List.mem_map.1 hy
    have := h2 x hx
    omega
end Go.Proofs.YtplaaglckbfklaaDoor
