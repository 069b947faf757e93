/- Proved: the statement on MulEach at every ring and lists, in a world in which the tables are laid. -/
import Derived.Test.YtcnkanjkdkjceaaDoorSpMul
import Derived.Test.YtcnkanjkdkjceaaDoorLawMulEach
namespace Go.Proofs.YtcnkanjkdkjceaaDoor
open Go.ChangeShapes Go.WideShapes Go.ChangeAt Go.RowKit
set_option linter.unusedVariables false
theorem GR.bounds {p n r : Int} {P N R : Nat} (h : GR p n r P N R) : (2 ≤ p ∧ p ≤ 268435456) ∧ (2 ≤ n ∧ n ≤ 16) := by
  have h1 := modB_yes h.ok.md
  have h2 := h.ok.sz
  have := h.ep
  have := h.en
  omega
theorem MulEach_any (p n r : Int) (xs ys : List Int) (v u : Value) (w : World) (hv : Row w v xs) (hu : Row w u ys) (hlv : xs.length ≤ 9223372036854775807) (hlu : ys.length ≤ 9223372036854775807) (hp : -9223372036854775808 ≤ p ∧ p ≤ 9223372036854775807) (hP : PrsW w) (hT : TabW w) :
    Calls Tryd.prog 9 #[.agg #[.int .i64 p, .int .i64 n, .int .i64 r], v, u] w fun e w' => e = .returned (.bool true) ∧ Old w w' := by
  obtain ⟨g, hg, ci, cs⟩ := ring_any p n r hp
  have hgp : g = true → (2 ≤ p ∧ p ≤ 268435456) ∧ (2 ≤ n ∧ n ≤ 16) := fun e => by
    obtain ⟨P, N, R, h⟩ := hg e
    exact h.bounds
  cases hok : (g && polyB p n xs && polyB p n ys)
  · exact law_MulEach p n r xs ys v u w hv hlv hu hlu hP hT false [] (by simp)
      (fun _ _ v u W h1 h2 => spec_MulEach_of p n r xs ys g false [] hgp hlv hlu hok (fun _ => rfl) cs 0 [] [] (fun e => by cases e) v u W h1 h2)
      (fun _ _ v u W a b h1 h2 => impl_MulEach_of p n r xs ys g false [] hgp hlv hlu hok (fun _ => rfl) ci (fun e => by cases e) v u W a b h1 h2)
  · have hk : g = true ∧ polyB p n xs = true ∧ polyB p n ys = true := by simpa [and_assoc] using hok
    obtain ⟨P, N, R, h⟩ := hg hk.1
    have hb := h.bounds
    obtain ⟨rfl, rfl, rfl, hr, hlt, _⟩ := h
    obtain ⟨as1, rfl, la, ha⟩ := polyB_yes hk.2.1
    obtain ⟨bs1, rfl, lb, hbb⟩ := polyB_yes hk.2.2
    have hN : 2 ≤ N ∧ N ≤ 16 := by omega
    have hPp : 2 ≤ P ∧ P ≤ 268435456 := by omega
    refine law_MulEach _ _ _ _ _ v u w hv hlv hu hlu hP hT true (toZ (eachN P N as1 bs1)) (by rw [toZ_len, eachN_len]; omega)
      (fun _ _ v u W h1 h2 => spec_MulEach_of _ _ _ _ _ g true _ hgp hlv hlu hok (fun e => by cases e) cs P as1 bs1 (fun _ => ⟨rfl, rfl, rfl, by omega, by omega, ha, hbb, by rw [la]⟩) v u W h1 h2)
      (fun _ _ v u W a b h1 h2 => impl_MulEach_of _ _ _ _ _ g true _ hgp hlv hlu hok (fun e => by cases e) ci (fun _ v u W _ h1 h2 => impl_products P N R as1 bs1 v u W h1 h2 hPp hN la lb ha hbb) v u W a b h1 h2)
end Go.Proofs.YtcnkanjkdkjceaaDoor
