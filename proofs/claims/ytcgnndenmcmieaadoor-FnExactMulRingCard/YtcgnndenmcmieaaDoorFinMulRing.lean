/- Proved: the statement on MulRing at every ring and lists, in a world in which the tables are laid. -/
import Derived.Test.YtcgnndenmcmieaaDoorLawMulRing
import Derived.Test.YtcgnndenmcmieaaDoorDoorC
import Derived.Test.YtcgnndenmcmieaaDoorPrc
import Derived.Test.YtcgnndenmcmieaaDoorSpMl
import Derived.Test.YtcgnndenmcmieaaDoorRpr
namespace Go.Proofs.YtcgnndenmcmieaaDoor
open Go.ChangeShapes Go.WideShapes Go.ChangeAt Go.RowKit
set_option linter.unusedVariables false
theorem MulRing_any (p n r : Int) (xs ys : List Int) (v u : Value) (w : World) (hv : Row w v xs) (hu : Row w u ys) (hlv : xs.length ≤ 9223372036854775807) (hlu : ys.length ≤ 9223372036854775807) (hp : -9223372036854775808 ≤ p ∧ p ≤ 9223372036854775807) (hP : PrsW w) (hT : TabW w) :
    Calls Tryd.prog 3 #[.agg #[.int .i64 p, .int .i64 n, .int .i64 r], v, u] w fun e w' => e = .returned (.bool true) ∧ Old w w' := by
  obtain ⟨g, hg, ci, cs⟩ := ring_any p n r hp
  have hgp : g = true → (2 ≤ p ∧ p ≤ 268435456) ∧ (2 ≤ n ∧ n ≤ 16) := fun e => by
    obtain ⟨P, N, R, h⟩ := hg e
    exact h.bounds2
  cases hok : (g && polyB p n xs && polyB p n ys)
  · exact law_MulRing p n r xs ys v u w hv hlv hu hlu hP hT false [] (by simp)
      (fun _ _ v u W h1 h2 => spec_MulRing_of p n r xs ys g false [] hgp hlv hlu hok (fun _ => rfl) cs (fun e => by cases e) v u W h1 h2)
      (fun _ _ v u W a b h1 h2 => impl_MulRing_of p n r xs ys g false [] hgp hlv hlu hok (fun _ => rfl) ci (fun e => by cases e) v u W a b h1 h2)
  · have hk : g = true ∧ polyB p n xs = true ∧ polyB p n ys = true := by simpa [and_assoc] using hok
    obtain ⟨P, N, R, h⟩ := hg hk.1
    have hb := h.bounds2
    have hok2 := h.ok
    have hrt := h.rt (ring_pr hok2)
    obtain ⟨rfl, rfl, rfl, hr, hlt, _⟩ := h
    obtain ⟨as1, rfl, la, ha⟩ := polyB_yes hk.2.1
    obtain ⟨bs1, rfl, lb, hbb⟩ := polyB_yes hk.2.2
    have hN : 2 ≤ N ∧ N ≤ 16 := by omega
    have hPp : 2 ≤ P ∧ P ≤ 268435456 := by omega
    have hS : Sz4 N := by
      have := hok2.sz
      omega
    have hodd : P % 2 = 1 := by
      have h1 := hok2.dv
      have h2 := hok2.sz
      rcases h2 with e | e | e | e <;> rw [e] at h1 <;> omega
    obtain ⟨r1, r2⟩ := hrt.cg hPp.1
    refine law_MulRing _ _ _ _ _ v u w hv hlv hu hlu hP hT true (toZ (muO P N as1 bs1 N)) (by rw [toZ_len, muO_len]; omega)
      (fun _ _ v u W h1 h2 => spec_MulRing_of _ _ _ _ _ g true _ hgp hlv hlu hok (fun e => by cases e) cs (fun _ v u W h1 h2 => spec_l3Mul P N R as1 bs1 v u W h1 h2 hPp hN la lb ha hbb) v u W h1 h2)
      (fun _ _ v u W a b h1 h2 => impl_MulRing_of _ _ _ _ _ g true _ hgp hlv hlu hok (fun e => by cases e) ci (fun _ v u W hT' h1 h2 => impl_product P N R as1 bs1 v u W hT' h1 h2 hPp hodd hS hlt la lb ha hbb r1 r2) v u W a b h1 h2)
end Go.Proofs.YtcgnndenmcmieaaDoor
