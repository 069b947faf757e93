/- Proved: a row that is drawn has at most 64 numbers. -/
import Derived.Test.YtonbimgdkafnjaaCoin9
namespace Go.Proofs.Ytonbimgdkafnjaa
open Go.ChangeShapes Go.WideShapes Go.ChangeAt Go.RowKit
theorem len_drP (D : Nat → Option (Int × Nat)) (g : Bool) (k : Nat) (n : Int) (h : g = true → n ≤ 64) : (aL (if g then drP D k n.toNat else none)).length ≤ 1000 := by
  cases g
  · simp [aL]
  · simp only [if_true]
    cases h2 : drP D k n.toNat with
    | none => simp [aL]
    | some p =>
      obtain ⟨l, k'⟩ := p
      show l.length ≤ 1000
      rw [drP_len _ l k' h2]
      have := h rfl
      omega
theorem len_uRow (ws : List Int) (at_ p n : Int) : (aL (uRow ws at_ p n)).length ≤ 1000 := len_drP _ _ _ n (fun h => (mayB_yes (Bool.and_eq_true_iff.1 h).1).2.2.2.2)
theorem len_nRow (ws : List Int) (at_ b n : Int) : (aL (nRow ws at_ b n)).length ≤ 1000 := len_drP _ _ _ n (fun h => (mayB_yes (Bool.and_eq_true_iff.1 h).1).2.2.2.2)
theorem len_tRow (ws : List Int) (at_ n : Int) : (aL (tRow ws at_ n)).length ≤ 1000 := len_drP _ _ _ n (fun h => (mayB_yes h).2.2.2.2)
end Go.Proofs.Ytonbimgdkafnjaa
