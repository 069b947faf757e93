/- Proved: several texts in one: what each proves is said ahead of it. -/
import Derived.Test.YtpebikjckhcgfaaDoorZ84
import Derived.Test.YtpebikjckhcgfaaDoorZ82
import Derived.Test.YtpebikjckhcgfaaDoorZ41
import Derived.Test.YtpebikjckhcgfaaDoorZ17
import Derived.Test.YtpebikjckhcgfaaDoorZ42
import Derived.Test.YtpebikjckhcgfaaDoorZ12
/- Proved: the statement on EncodeSlots at every size, modulus and list, in a world in which the two tables are laid. -/
namespace Go.Proofs.YtpebikjckhcgfaaDoor
open Go.ChangeShapes Go.WideShapes Go.ChangeAt Go.RowKit
open M1
set_option linter.unusedVariables false
theorem EncodeSlots_any (n p : Int) (xs : List Int) (v : Value) (hp : -9223372036854775808 ≤ p ∧ p ≤ 9223372036854775807) (w : World) (hv : Row w v xs) (hlv : xs.length ≤ 9223372036854775807) (hP : PrsW w) (hT : TabW w) :
    Calls Tryd.prog 6 #[.int .i64 n, .int .i64 p, v] w fun e w' => e = .returned (.bool true) ∧ Old w w' := by
  by_cases h : RingOk p n
  · obtain ⟨P, rfl⟩ := Int.eq_ofNat_of_zero_le (show 0 ≤ p by have := modB_yes h.md; omega)
    obtain ⟨N, rfl⟩ := Int.eq_ofNat_of_zero_le (show 0 ≤ n by have := h.sz; omega)
    have hm := modB_yes h.md
    have hPp : 2 ≤ P ∧ P ≤ 268435456 := by omega
    have hS : Sz4 N := by have := h.sz; omega
    have hb := sz_bd hS
    obtain ⟨R, hlt, hrt, ci, cs⟩ := Ring_both P N h
    have hpi : ∀ W v, Row W v xs → Calls Tryd.prog 62 #[.agg #[.int .i64 P, .int .i64 N, .int .i64 R], v] W fun e w' => e = .returned (.bool (polyB P N xs)) ∧ Old W w' := fun W v hv => impl_poly P N R xs v W hv hlv (by omega)
    have hps : ∀ W v, Row W v xs → Calls Tryd.prog 66 #[.agg #[.int .i64 P, .int .i64 N, .int .i64 0], v] W fun e w' => e = .returned (.bool (polyB P N xs)) ∧ Old W w' := fun W v hv => spec_poly P N 0 xs v W hv hlv (by omega)
    cases hpo : polyB P N xs
    · rw [hpo] at hpi hps
      exact law_EncodeSlots _ _ xs v w hv hlv hP hT false [] (by simp)
        (fun _ v W h1 _ => (spec_EncodeSlots_no2 _ _ v xs W h1 (fun W' q => spec_MaySlot_yes N P W' h) (fun W' q => hps W' v (h1.old q))).mono fun e w' ⟨h1, h2⟩ => ⟨_, h1, h2, own_nil _ _⟩)
        (fun _ v W a b h1 _ => (impl_EncodeSlots_no2 _ _ _ _ _ v xs W h1 a b ci (fun W' q => hpi W' v (h1.old q))).mono fun e w' ⟨h1, h2⟩ => ⟨_, h1, h2, own_nil _ _⟩)
    · rw [hpo] at hpi hps
      obtain ⟨as1, rfl, la, ha⟩ := polyB_yes hpo
      obtain ⟨r1, r2⟩ := (hrt (ring_pr h)).cg hPp.1
      have hel := enS_len N as1 N
      have het := enS_lt (N := N) (P := P) (xs := as1) (by omega) ha N
      have e := inv_same P N R (enS N as1 N) hS hel hPp.1 het r1 r2
      exact law_EncodeSlots _ _ _ v w hv hlv hP hT true (toZ (invL P N R (enS N as1 N))) (by rw [toZ_len, invL_len]; omega)
        (fun _ v W h1 _ => spec_EncodeSlots_yes N P R v as1 (invL P N R (enS N as1 N)) W hS h1 la (fun W' q => spec_MaySlot_yes N P W' h) (fun W' q => hps W' v (h1.old q)) cs (fun W' u hu => spec_l3Inverse P N R (enS N as1 N) u W' hu hPp hS hlt hel het (invM_ltI _ _ (by omega)) (invM_ltI _ _ (by omega))))
        (fun _ v W a b h1 _ => impl_EncodeSlots_yes N P R v as1 (invL P N R (enS N as1 N)) W hS h1 la a b ci (fun W' q => hpi W' v (h1.old q)) (fun W' u hT' hu => by
          have := impl_inverse0 P N R (enS N as1 N) u W' hT' hu hPp hS hlt hel het
          rw [e] at this
          exact this))
  · exact law_EncodeSlots _ _ xs v w hv hlv hP hT false [] (by simp)
      (fun _ v W h1 _ => (spec_EncodeSlots_no1 _ _ v xs W h1 (fun W' q => spec_MaySlot_no n p W' hp h)).mono fun e w' ⟨h1, h2⟩ => ⟨_, h1, h2, own_nil _ _⟩)
      (fun _ v W a b h1 _ => (impl_EncodeSlots_no1 _ _ v xs W h1 a b (fun W' a b => impl_RingOf_no p n W' a b h)).mono fun e w' ⟨h1, h2⟩ => ⟨_, h1, h2, own_nil _ _⟩)
end Go.Proofs.YtpebikjckhcgfaaDoor
