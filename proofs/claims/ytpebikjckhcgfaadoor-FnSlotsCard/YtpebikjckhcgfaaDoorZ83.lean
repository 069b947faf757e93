/- Proved: several texts in one: what each proves is said ahead of it. -/
import Derived.Test.YtpebikjckhcgfaaDoorZ81
import Derived.Test.YtpebikjckhcgfaaDoorZ82
import Derived.Test.YtpebikjckhcgfaaDoorZ41
import Derived.Test.YtpebikjckhcgfaaDoorZ17
import Derived.Test.YtpebikjckhcgfaaDoorZ42
import Derived.Test.YtpebikjckhcgfaaDoorZ12
/- Proved: the statement on DecodeSlots at every size, modulus and list, in a world in which the two tables are laid. -/
namespace Go.Proofs.YtpebikjckhcgfaaDoor
open Go.ChangeShapes Go.WideShapes Go.ChangeAt Go.RowKit
open M1
set_option linter.unusedVariables false
theorem DecodeSlots_any (n p : Int) (xs : List Int) (v : Value) (hp : -9223372036854775808 ≤ p ∧ p ≤ 9223372036854775807) (w : World) (hv : Row w v xs) (hlv : xs.length ≤ 9223372036854775807) (hP : PrsW w) (hT : TabW w) :
    Calls Tryd.prog 7 #[.int .i64 n, .int .i64 p, v] w fun e w' => e = .returned (.bool true) ∧ Old w w' := by
  by_cases h : RingOk p n
  · obtain ⟨P, rfl⟩ := Int.eq_ofNat_of_zero_le (show 0 ≤ p by have := modB_yes h.md; omega)
    obtain ⟨N, rfl⟩ := Int.eq_ofNat_of_zero_le (show 0 ≤ n by have := h.sz; omega)
    have hm := modB_yes h.md
    have hPp : 2 ≤ P ∧ P ≤ 268435456 := by omega
    have hS : Sz4 N := by have := h.sz; omega
    have hb := sz_bd hS
    obtain ⟨R, hlt, hrt, ci, cs⟩ := Ring_both P N h
    have hpi : ∀ W v, Row W v xs → Calls Tryd.prog 62 #[.agg #[.int .i64 P, .int .i64 N, .int .i64 R], v] W fun e w' => e = .returned (.bool (polyB P N xs)) ∧ Old W w' := fun W v hv => impl_poly P N R xs v W hv hlv (by omega)
    have hps : ∀ W v, Row W v xs → Calls Tryd.prog 66 #[.agg #[.int .i64 P, .int .i64 N, .int .i64 0], v] W fun e w' => e = .returned (.bool (polyB P N xs)) ∧ Old W w' := fun W v hv => spec_poly P N 0 xs v W hv hlv (by omega)
    cases hpo : polyB P N xs
    · rw [hpo] at hpi hps
      exact law_DecodeSlots _ _ xs v w hv hlv hP hT false [] (by simp)
        (fun _ v W h1 _ => (spec_DecodeSlots_no2 _ _ v xs W h1 (fun W' q => spec_MaySlot_yes N P W' h) (fun W' q => hps W' v (h1.old q))).mono fun e w' ⟨h1, h2⟩ => ⟨_, h1, h2, own_nil _ _⟩)
        (fun _ v W a b h1 _ => (impl_DecodeSlots_no2 _ _ _ _ _ v xs W h1 a b ci (fun W' q => hpi W' v (h1.old q))).mono fun e w' ⟨h1, h2⟩ => ⟨_, h1, h2, own_nil _ _⟩)
    · rw [hpo] at hpi hps
      obtain ⟨as1, rfl, la, ha⟩ := polyB_yes hpo
      obtain ⟨r1, r2⟩ := (hrt (ring_pr h)).cg hPp.1
      have e := fwd_same P N R as1 hS la (by omega) ha r1 r2
      exact law_DecodeSlots _ _ _ v w hv hlv hP hT true (toZ ((plL N).map fun k => (fwdS P N R as1).getD k 0)) (by rw [toZ_len, List.length_map, plL_len hS]; omega)
        (fun _ v W h1 _ => spec_DecodeSlots_yes N P R v _ (fwdS P N R as1) W hS h1 (fwdS_len _ _ _ _) (fun W' q => spec_MaySlot_yes N P W' h) (fun W' q => hps W' v (h1.old q)) cs (fun W' q => spec_l3Forward P N R as1 v W' (h1.old q) hPp hS hlt la ha))
        (fun _ v W a b h1 _ => impl_DecodeSlots_yes N P R v _ (fwdS P N R as1) W hS h1 (fwdS_len _ _ _ _) a b ci (fun W' q => hpi W' v (h1.old q)) (fun W' q => by
          have := impl_forward P N R as1 v W' (b.old q) (h1.old q) hPp hS hlt la ha
          rw [e] at this
          exact this))
  · exact law_DecodeSlots _ _ xs v w hv hlv hP hT false [] (by simp)
      (fun _ v W h1 _ => (spec_DecodeSlots_no1 _ _ v xs W h1 (fun W' q => spec_MaySlot_no n p W' hp h)).mono fun e w' ⟨h1, h2⟩ => ⟨_, h1, h2, own_nil _ _⟩)
      (fun _ v W a b h1 _ => (impl_DecodeSlots_no1 _ _ v xs W h1 a b (fun W' a b => impl_RingOf_no p n W' a b h)).mono fun e w' ⟨h1, h2⟩ => ⟨_, h1, h2, own_nil _ _⟩)
end Go.Proofs.YtpebikjckhcgfaaDoor
