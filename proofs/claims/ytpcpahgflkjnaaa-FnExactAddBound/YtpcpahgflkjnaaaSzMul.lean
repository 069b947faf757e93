/- Proved: the contract of the program's mulSizes. -/
import Derived.Test.YtpcpahgflkjnaaaSzAdd
namespace Go.Proofs.Ytpcpahgflkjnaaa
open Go.ChangeShapes Go.WideShapes Go.ChangeAt Go.RowKit
open M2
set_option linter.unusedVariables false
set_option linter.unusedSimpArgs false

/-- multiplying, i limbs far -/
structure MuI (a b i : Nat) (cur : List Nat) : Prop where
  lim : Lim cur
  len : cur.length = 80
  eq : val cur = val ((dig a).take i) * b
  up : ∀ j, i + cnt b ≤ j → cur.getD j 0 = 0
/-- and k limbs of the other one -/
structure MkI (a b i k : Nat) (cur : List Nat) (c : Nat) : Prop where
  mul : MulI 80 (i + k) (val ((dig a).take i) * b + LB ^ i * (dig a).getD i 0 * val ((dig b).take k)) cur c
  up : ∀ j, i + cnt b ≤ j → cur.getD j 0 = 0
theorem MuI.start (a b : Nat) : MuI a b 0 (ext []) :=
  ⟨ext_lim Lim.nil, ext_len (by simp), by rw [ext_val]; simp [val], fun j _ => by rw [ext_getD]; simp⟩
theorem MkI.start {a b i : Nat} {cur : List Nat} (h : MuI a b i cur) : MkI a b i 0 cur 0 :=
  ⟨⟨h.lim, h.len, by rw [h.eq]; simp [val], LB_pos⟩, h.up⟩
theorem MkI.step {a b i k : Nat} {cur : List Nat} {c : Nat} (h : MkI a b i k cur c) (hk : k < cnt b) (hi : i + cnt b ≤ 80) :
    MkI a b i (k + 1) (cur.set (i + k) ((c + (cur.getD (i + k) 0 + (dig a).getD i 0 * (dig b).getD k 0)) % LB)) ((c + (cur.getD (i + k) 0 + (dig a).getD i 0 * (dig b).getD k 0)) / LB) := by
  have l1 := (dig_lim a).getD i
  have l2 := (dig_lim b).getD k
  have hz : (dig a).getD i 0 * (dig b).getD k 0 ≤ (LB - 1) * (LB - 1) := Nat.mul_le_mul (by omega) (by omega)
  have := h.mul.step _ hz (by omega)
  have e := mul_row_step (dig a) (dig b) ((dig a).getD i 0) i k
  rw [val_dig] at e
  rw [e] at this
  refine ⟨this, fun j hj => ?_⟩
  refine Eq.trans ?_ (h.up j hj)
  simp [List.getD, show ¬ i + k = j by omega]
theorem MkI.done {a b i : Nat} {cur : List Nat} {c : Nat} (h : MkI a b i (cnt b) cur c) (hi : i + cnt b < 80) : MuI a b (i + 1) (cur.set (i + cnt b) c) := by
  have hs := val_set cur (i + cnt b) c (by rw [h.mul.len]; exact hi)
  rw [h.up _ (Nat.le_refl _), Nat.mul_zero, Nat.add_zero] at hs
  refine ⟨h.mul.lim.set _ _ h.mul.c1, by rw [List.length_set, h.mul.len], ?_, ?_⟩
  · rw [hs, h.mul.eq, take_cnt b _ (Nat.le_refl _), val_dig, val_take_succ, Nat.add_mul]
  · intro j hj
    refine Eq.trans ?_ (h.up j (by omega))
    simp [List.getD, show ¬ i + cnt b = j by omega]
theorem MuI.done {a b : Nat} {cur : List Nat} (h : MuI a b (cnt a) cur) : cur = pad (a * b) := by
  have e := h.eq
  rw [take_cnt a _ (Nat.le_refl _), val_dig] at e
  rw [← e]
  exact pad_of h.lim h.len
theorem cnt_mul (a b : Nat) : cnt (a * b) ≤ cnt a + cnt b := by
  refine cnt_le ?_
  have h1 := cnt_lt a
  have h2 := cnt_lt b
  rw [Nat.pow_add]
  have h3 : a * b ≤ a * LB ^ cnt b := Nat.mul_le_mul_left _ (Nat.le_of_lt h2)
  have h4 : a * LB ^ cnt b < LB ^ cnt a * LB ^ cnt b := Nat.mul_lt_mul_of_pos_right h1 (pw _)
  omega
end Go.Proofs.Ytpcpahgflkjnaaa
