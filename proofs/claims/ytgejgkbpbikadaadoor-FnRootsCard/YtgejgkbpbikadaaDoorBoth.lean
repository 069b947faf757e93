/- Proved: the contracts of IsPrime of the program and of the model at every word, and what the listed tables give a walk. -/
import Derived.Test.YtgejgkbpbikadaaDoorRows
import Derived.WalkKit
import Derived.ProofKit
import Derived.OpenShut
import Derived.Handy
import Derived.WalkSmall
import Derived.Lib.LaidTab
import Derived.OpenVars
import Derived.Test.YtgejgkbpbikadaaDoorModel
import Derived.Test.YtgejgkbpbikadaaDoorRem2
namespace Go.Proofs.YtgejgkbpbikadaaDoor
open Go.ChangeShapes Go.WideShapes Go.ChangeAt Go.RowKit
open M1
set_option linter.unusedVariables false
theorem isP_small (n : Nat) (h : n < 2) : isP n = false := by unfold isP; rw [if_pos h]
theorem spec_IsPrime (n : Nat) (w : World) (hn : n < 18446744073709551616) :
    Calls Tryd.prog 11 #[.int .u64 n] w fun e w' => e = .returned (.bool (isP n)) ∧ Grown w w' := by
  by_cases h2 : n < 2
  · rw [isP_small n h2]
    have hd : decide ((n : Int) < 2) = true := by simp; omega
    go_enter Tryd.func11, Tryd.ntmps11
    go_wp2_with fail
    go_ret
    exact ⟨rfl, Grown.refl _⟩
  · exact spec_prime n w _ (by omega) hn (St.start n h2)
theorem impl_IsPrime (n : Nat) (w : World) (hn : n < 18446744073709551616) (hP : PrsW w) (hT : TabW w) :
    Calls Tryd.prog 12 #[.int .u64 n] w fun e w' => e = .returned (.bool (isP n)) ∧ ∃ k, w' = w.drewN k := by
  by_cases h2 : n < 2
  · rw [isP_small n h2]
    have hd : decide ((n : Int) < 2) = true := by simp; omega
    go_enter Tryd.func12, Tryd.ntmps12
    go_wp2_with fail
    go_ret
    exact ⟨rfl, 0, rfl⟩
  · exact impl_first n w _ (by omega) hn hP hT (St.start n h2) (PR_all n (by omega) hn)
theorem lt_of_cell {w : World} {b o : Nat} {v : Value} (h : w.cell? ⟨b, o, none⟩ = some v) : b < w.heap.size := by
  by_cases hb : b < w.heap.size
  · exact hb
  · exfalso
    have h0 : w.heap[b]? = none := Array.getElem?_eq_none (by omega)
    simp [World.cell?, h0] at h
theorem gcell {W w1 : World} (h : Grown W w1) {b : Nat} (o : Nat) (hb : b < W.heap.size) : w1.cell? ⟨b, o, none⟩ = W.cell? ⟨b, o, none⟩ := h.1.cell hb (fun f => f)
theorem PrsW.grown {w w1 : World} (h : PrsW w) (g : Grown w w1) : PrsW w1 := fun j hj => by rw [gcell g j (lt_of_cell (h j hj))]; exact h j hj
theorem TabW.grown {w w1 : World} (h : TabW w) (g : Grown w w1) : TabW w1 := fun j hj => by rw [gcell g j (lt_of_cell (h j hj))]; exact h j hj
theorem grown_block {W w1 : World} (h : Grown W w1) {i : Nat} (hi : i < W.heap.size) : w1.heap[i]? = W.heap[i]? := by
  have hk := h.1.2.2 i hi
  have hs : w1.heap[i]? ≠ none := by
    have := h.2.2
    intro e
    have := Array.getElem?_eq_none_iff.1 e
    omega
  cases h1 : W.heap[i]? with
  | none => exact absurd h1 (by simp; omega)
  | some a =>
    cases h2 : w1.heap[i]? with
    | none => exact absurd h2 hs
    | some b =>
      rw [h1, h2] at hk
      cases a with
      | cells c t fr =>
        cases b with
        | cells c' t' fr' =>
          obtain ⟨e1, e2, _, e3⟩ := hk
          have : c' = c := Array.ext_getElem? (fun j => e3 j (fun f => f))
          rw [e1, e2, this]
        | _ => exact hk
      | map es cl =>
        cases b with
        | map es' cl' =>
          rcases hk with f | ⟨e1, e2⟩
          · exact f.elim
          · rw [e1, e2]
        | _ => exact hk
      | _ => cases b <;> exact hk
theorem var_stays {H : Type} {enc : TypeId × Value → H} {P : Program} (hl : laidOutB P = true) {W W' : World} (hg : Grown W W') {n : String} {gs : List (DataW H)} {ps : List MemPlace}
    (hv : varsRowed P [n] = true) (h : DataW.TrodVars enc P W (fun _ => true) [n] gs ps) {sp : Nat → Bool} (hsp : ∀ p ∈ ps, sp p.block = true) : DataW.TrodVars enc P W' sp [n] gs ps := by
  have hlt := h.lt
  obtain ⟨g, t, cs, fuel, d, p, rfl, h1, h2, h3, h4, rfl⟩ := trodVars_one h
  have ht : P.readableRec t = true ∧ t < P.types.size := by
    have := hv
    simp only [varsRowed, List.all_cons, List.all_nil, Bool.and_true] at this
    rw [h1] at this
    cases hgl : P.globals[g]? with
    | none => rw [hgl] at h2; cases h2
    | some gl =>
      rw [hgl] at h2
      obtain rfl : gl.type = t := Option.some.inj h2
      simpa [hgl] using this
  have hp : ∀ x ∈ p, x.block < W.heap.size := fun x hx => hlt x (by simp [hx])
  have hgb : g < W.heap.size := by
    unfold World.var? at h3
    rw [h1] at h3
    simp only [Option.bind_some] at h3
    cases hh : W.heap[g]? with
    | none => rw [hh] at h3; cases h3
    | some o => exact (Array.getElem?_eq_some_iff.1 hh).1
  have h3' : W'.var? P n = some cs := by
    unfold World.var? at h3 ⊢
    rw [h1] at h3 ⊢
    simp only [Option.bind_some] at h3 ⊢
    rw [grown_block hg hgb]; exact h3
  have same : ∀ x ∈ p, W.sameAt W' x := by
    intro x hx
    have := hp x hx
    cases x with
    | cell b o => exact gcell hg o this
    | map b => exact grown_block hg this
  exact trodVars_mk1 h1 h2 h3' (DataW.trod_stays (Go.kids_book hl ht.1) (Go.book_sized ht.1) (fun h => by cases h) ⟨ht.2, Go.book_self t⟩ h4 same (fun x hx => hsp x (by simp [hx])))
end Go.Proofs.YtgejgkbpbikadaaDoor
