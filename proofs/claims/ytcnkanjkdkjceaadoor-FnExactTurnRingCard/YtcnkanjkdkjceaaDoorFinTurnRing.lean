/- Proved: the statement on TurnRing at every ring, list and turn, in a world in which the tables are laid. -/
import Derived.Test.YtcnkanjkdkjceaaDoorTurnS
import Derived.Test.YtcnkanjkdkjceaaDoorLawTurnRing
namespace Go.Proofs.YtcnkanjkdkjceaaDoor
open Go.ChangeShapes Go.WideShapes Go.ChangeAt Go.RowKit
set_option linter.unusedVariables false
theorem GR.bounds' {p n r : Int} {P N R : Nat} (h : GR p n r P N R) : (2 ≤ p ∧ p ≤ 268435456) ∧ (2 ≤ n ∧ n ≤ 16) := by
  have h1 := modB_yes h.ok.md
  have h2 := h.ok.sz
  have := h.ep
  have := h.en
  omega
theorem turnB_yes {N : Nat} {t : Int} (h : turnB N t = true) : ∃ T : Nat, t = T ∧ T < 2 * N := by
  simp only [turnB, Bool.and_eq_true, decide_eq_true_eq] at h
  exact ⟨t.toNat, by omega, by omega⟩
theorem TurnRing_any (p n r t : Int) (xs : List Int) (v : Value) (w : World) (hv : Row w v xs) (hlv : xs.length ≤ 9223372036854775807) (hp : -9223372036854775808 ≤ p ∧ p ≤ 9223372036854775807) (ht : -9223372036854775808 ≤ t ∧ t ≤ 9223372036854775807) (hP : PrsW w) (hT : TabW w) :
    Calls Tryd.prog 10 #[.agg #[.int .i64 p, .int .i64 n, .int .i64 r], v, .int .i64 t] w fun e w' => e = .returned (.bool true) ∧ Old w w' := by
  obtain ⟨g, hg, ci, cs⟩ := ring_any p n r hp
  have hgp : g = true → (2 ≤ p ∧ p ≤ 268435456) ∧ (2 ≤ n ∧ n ≤ 16) := fun e => by
    obtain ⟨P, N, R, h⟩ := hg e
    exact h.bounds'
  cases hok : (g && polyB p n xs && turnB n t)
  · exact law_TurnRing p n r t xs v w hv hlv hP hT false [] (by simp)
      (fun _ v W h1 => spec_TurnRing_of p n r t xs g false [] hgp ht hlv hok (fun _ => rfl) cs (fun e => by cases e) v W h1)
      (fun _ v W a b h1 => impl_TurnRing_of p n r t xs g false [] hgp ht hlv hok (fun _ => rfl) ci (fun e => by cases e) v W a b h1)
  · have hk : g = true ∧ polyB p n xs = true ∧ turnB n t = true := by simpa [and_assoc] using hok
    obtain ⟨P, N, R, h⟩ := hg hk.1
    have hb := h.bounds'
    obtain ⟨rfl, rfl, rfl, hr, hlt, _⟩ := h
    obtain ⟨as1, rfl, la, ha⟩ := polyB_yes hk.2.1
    obtain ⟨T, rfl, hT2⟩ := turnB_yes hk.2.2
    have hN : 2 ≤ N ∧ N ≤ 16 := by omega
    have hPp : 2 ≤ P ∧ P ≤ 268435456 := by omega
    refine law_TurnRing _ _ _ _ _ v w hv hlv hP hT true (trnS P N T as1 N) (by rw [trnS_len]; omega)
      (fun _ v W h1 => spec_TurnRing_of _ _ _ _ _ g true _ hgp ht hlv hok (fun e => by cases e) cs (fun _ v W h1 => spec_turned P N R T as1 v W h1 hPp hN la ha hT2) v W h1)
      (fun _ v W a b h1 => impl_TurnRing_of _ _ _ _ _ g true _ hgp ht hlv hok (fun e => by cases e) ci (fun _ v W _ h1 => impl_turned P N R T as1 v W h1 hPp hN la ha hT2) v W a b h1)
end Go.Proofs.YtcnkanjkdkjceaaDoor
