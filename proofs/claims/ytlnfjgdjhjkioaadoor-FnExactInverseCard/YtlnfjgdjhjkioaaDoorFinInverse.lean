/- Proved: the statement on Inverse at every ring and list, in a world in which the two tables are laid. -/
import Derived.Test.YtlnfjgdjhjkioaaDoorLawInverse
import Derived.Test.YtlnfjgdjhjkioaaDoorKE
import Derived.Test.YtlnfjgdjhjkioaaDoorIvn
import Derived.Test.YtlnfjgdjhjkioaaDoorFinForward
namespace Go.Proofs.YtlnfjgdjhjkioaaDoor
open Go.ChangeShapes Go.WideShapes Go.ChangeAt Go.RowKit
set_option linter.unusedVariables false
theorem Inverse_any (p n r : Int) (xs : List Int) (v : Value) (w : World) (hv : Row w v xs) (hlv : xs.length ≤ 9223372036854775807) (hp : -9223372036854775808 ≤ p ∧ p ≤ 9223372036854775807) (hP : PrsW w) (hT : TabW w) :
    Calls Tryd.prog 4 #[.agg #[.int .i64 p, .int .i64 n, .int .i64 r], v] w fun e w' => e = .returned (.bool true) ∧ Old w w' := by
  obtain ⟨g, hg, ci, cs⟩ := ring_any p n r hp
  have hgp : g = true → (2 ≤ p ∧ p ≤ 268435456) ∧ (2 ≤ n ∧ n ≤ 16) := fun e => by
    obtain ⟨P, N, R, h⟩ := hg e
    exact h.bounds'
  cases hok : (g && polyB p n xs)
  · exact law_Inverse p n r xs v w hv hlv hP hT false [] (by simp)
      (fun _ v W h1 => spec_Inverse_of p n r xs g false [] hgp hlv hok (fun _ => rfl) cs (fun e => by cases e) v W h1)
      (fun _ v W a b h1 => impl_Inverse_of p n r xs g false [] hgp hlv hok (fun _ => rfl) ci (fun e => by cases e) v W a b h1)
  · have hk : g = true ∧ polyB p n xs = true := by simpa using hok
    obtain ⟨P, N, R, h⟩ := hg hk.1
    have hb := h.bounds'
    have hok2 := h.ok
    have hrt := h.rt (ring_pr hok2)
    obtain ⟨rfl, rfl, rfl, hr, hlt, _⟩ := h
    obtain ⟨as1, rfl, la, ha⟩ := polyB_yes hk.2
    have hN : 2 ≤ N ∧ N ≤ 16 := by omega
    have hPp : 2 ≤ P ∧ P ≤ 268435456 := by omega
    have hS : Sz4 N := by
      have := hok2.sz
      omega
    obtain ⟨r1, r2⟩ := hrt.cg hPp.1
    have e := inv_same P N R as1 hS la hPp.1 ha r1 r2
    refine law_Inverse _ _ _ _ v w hv hlv hP hT true (toZ (invL P N R as1)) (by rw [toZ_len, invL_len]; omega)
      (fun _ v W h1 => spec_Inverse_of _ _ _ _ g true _ hgp hlv hok (fun e => by cases e) cs (fun _ v W h1 => spec_l3Inverse P N R as1 v W h1 hPp hS hlt la ha (invM_ltI _ _ (by omega)) (invM_ltI _ _ (by omega))) v W h1)
      (fun _ v W a b h1 => impl_Inverse_of _ _ _ _ g true _ hgp hlv hok (fun e => by cases e) ci (fun _ v W hT' h1 => by
        have := impl_inverse0 P N R as1 v W hT' h1 hPp hS hlt la ha
        rw [e] at this
        exact this) v W a b h1)
end Go.Proofs.YtlnfjgdjhjkioaaDoor
