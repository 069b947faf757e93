/- Proved: several texts in one: what each proves is said ahead of it. -/
import Derived.Test.YtinldhoimnbkhaaDoorDa00
import Derived.Deep.RegionWith
/- Proved: numbers as limbs to the base 2^28, the lowest first: what they are worth, the limbs of a number, noughts behind struck; no program in sight. -/
namespace Go.Proofs.YtinldhoimnbkhaaDoor.M2
set_option linter.unusedVariables false
def LB : Nat := 268435456
/-- what limbs are worth -/
def val : List Nat → Nat
  | [] => 0
  | x :: xs => x + LB * val xs
/-- the limbs of a number, none behind that is 0, at most so many of them -/
def digF : Nat → Nat → List Nat
  | 0, _ => []
  | f + 1, n => if n = 0 then [] else (n % LB) :: digF f (n / LB)
/-- the limbs of a number, none behind that is 0 -/
def dig (n : Nat) : List Nat := digF n n
/-- every limb is below the base -/
def Lim (xs : List Nat) : Prop := ∀ x ∈ xs, x < LB
theorem Lim.nil : Lim [] := fun x hx => by cases hx
theorem Lim.head {x : Nat} {xs : List Nat} (h : Lim (x :: xs)) : x < LB := h x (List.mem_cons_self ..)
theorem Lim.tail {x : Nat} {xs : List Nat} (h : Lim (x :: xs)) : Lim xs := fun y hy => h y (List.mem_cons_of_mem _ hy)
theorem Lim.take {xs : List Nat} (h : Lim xs) (k : Nat) : Lim (xs.take k) := fun y hy => h y (List.mem_of_mem_take hy)
theorem Lim.drop {xs : List Nat} (h : Lim xs) (k : Nat) : Lim (xs.drop k) := fun y hy => h y (List.mem_of_mem_drop hy)
theorem Lim.getD {xs : List Nat} (h : Lim xs) (k : Nat) : xs.getD k 0 < LB := by
  by_cases hk : k < xs.length
  · have e : xs.getD k 0 = xs[k] := by simp [List.getD, hk]
    rw [e]; exact h _ (List.getElem_mem hk)
  · have e : xs.getD k 0 = 0 := by simp [List.getD, List.getElem?_eq_none (Nat.le_of_not_lt hk)]
    rw [e]; decide
theorem val_lt : ∀ {xs : List Nat}, Lim xs → val xs < LB ^ xs.length
  | [], _ => by simp [val]
  | x :: xs, h => by
    have h1 := val_lt h.tail
    have h2 := h.head
    show x + LB * val xs < LB ^ (xs.length + 1)
    rw [Nat.pow_succ, Nat.mul_comm (LB ^ xs.length)]
    have h3 : LB * (val xs + 1) ≤ LB * LB ^ xs.length := Nat.mul_le_mul (Nat.le_refl _) h1
    rw [Nat.mul_add] at h3
    omega
/-- noughts behind struck -/
def trim (xs : List Nat) : List Nat := dig (val xs)
end Go.Proofs.YtinldhoimnbkhaaDoor.M2
/- Proved: what one round of adding, taking away and comparing limbs does; no program in sight. -/
namespace Go.Proofs.YtinldhoimnbkhaaDoor.M2
set_option linter.unusedVariables false
/-- adding, i limbs far -/
structure AddI (a b : List Nat) (i : Nat) (out : List Nat) (c : Nat) : Prop where
  lim : Lim out
  len : out.length = i
  eq : val out + LB ^ i * c = val (a.take i) + val (b.take i)
  c1 : c ≤ 1
theorem AddI.start (a b : List Nat) : AddI a b 0 [] 0 := ⟨Lim.nil, rfl, by simp [val], by omega⟩
theorem AddI.done {a b : List Nat} {i : Nat} {out : List Nat} {c : Nat} (h : AddI a b i out c) (ha : a.length ≤ i) (hb : b.length ≤ i) (hc : c = 0) : trim out = dig (val a + val b) := by
  have := h.eq
  rw [List.take_of_length_le ha, List.take_of_length_le hb, hc, Nat.mul_zero, Nat.add_zero] at this
  unfold trim
  rw [this]
/-- taking away, i limbs far -/
structure SubI (a b : List Nat) (i : Nat) (out : List Nat) (c : Nat) : Prop where
  lim : Lim out
  len : out.length = i
  eq : val out + val (b.take i) = val (a.take i) + LB ^ i * c
  c1 : c ≤ 1
theorem SubI.start (a b : List Nat) : SubI a b 0 [] 0 := ⟨Lim.nil, rfl, by simp [val], by omega⟩
theorem SubI.done {a b : List Nat} {i : Nat} {out : List Nat} {c : Nat} (h : SubI a b i out c) (ha : a.length = i) (hb : b.length ≤ i) (hle : val b ≤ val a) : trim out = dig (val a - val b) := by
  have h1 := h.eq
  rw [List.take_of_length_le hb, List.take_of_length_le (show a.length ≤ i by omega)] at h1
  have h2 := val_lt h.lim
  rw [h.len] at h2
  have h3 := h.c1
  have hc : c = 0 := by
    rcases Nat.eq_zero_or_pos c with h4 | h4
    · exact h4
    · exfalso
      have : c = 1 := by omega
      subst this
      omega
  subst hc
  unfold trim
  congr 1
  omega
end Go.Proofs.YtinldhoimnbkhaaDoor.M2
/- Proved: contracts of the model's functions on limbs: noughts struck, comparing, adding, taking away. -/
namespace Go.Proofs.YtinldhoimnbkhaaDoor
open Go.ChangeShapes Go.WideShapes Go.ChangeAt Go.RowKit
open M2
set_option linter.unusedVariables false
set_option linter.unusedSimpArgs false
/-- limbs as the program's numbers -/
def toI (xs : List Nat) : List Int := xs.map (fun (n : Nat) => (n : Int))
theorem toI_len (xs : List Nat) : (toI xs).length = xs.length := by simp [toI]
theorem toI_get (xs : List Nat) (j : Nat) : (toI xs).getD j 0 = ((xs.getD j 0 : Nat) : Int) := by
  simp only [toI, List.getD, List.getElem?_map]
  cases xs[j]? <;> rfl
/-- where the limbs lie, if there are any -/
theorem Row.at {w : World} {a : Option Addr} {n cap : Nat} {xs : List Nat} (h : Row w (.slice a n cap) (toI xs)) (h0 : 0 < xs.length) :
    ∃ b o, a = some ⟨b, o, none⟩ ∧ b < w.heap.size ∧ ∀ j, j < xs.length → w.cell? ⟨b, o + j, none⟩ = some (.int .i64 ((xs.getD j 0 : Nat) : Int)) := by
  rcases h with ⟨a', cap', e, e2⟩ | ⟨b, o, cap', e, hb, _, hc⟩
  · have := congrArg List.length e2
    rw [toI_len, List.length_nil] at this
    omega
  · simp only [Value.slice.injEq] at e
    obtain ⟨rfl, _, _⟩ := e
    rw [toI_len] at hc
    exact ⟨b, o, rfl, hb, fun j hj => by rw [hc j hj, toI_get]⟩
end Go.Proofs.YtinldhoimnbkhaaDoor
/- Proved: contracts of the statements' own helpers over whole numbers: sizes, copies, comparisons, marks. -/
namespace Go.Proofs.YtinldhoimnbkhaaDoor
open Go.ChangeShapes Go.WideShapes Go.ChangeAt Go.RowKit
set_option linter.unusedVariables false
set_option linter.unusedSimpArgs false
theorem szInts_any (a : Option Addr) (len cap : Nat) (left : Int) (w : World) (hl : len ≤ 9223372036854775807) (h0 : 0 ≤ left) (h1 : left ≤ 1048576) :
    Calls Tryd.prog 50 #[.slice a len cap, .int .i64 left] w fun e w' => e = .returned (.int .i64 (if left < (len : Int) then -1 else left - len)) ∧ w' = w := by
  by_cases h : left < (len : Int)
  · have d : decide (left - (len : Int) < 0) = true := by simp; omega
    rw [if_pos h]
    go_enter Tryd.func50, Tryd.ntmps50
    go_wp2_with fail
    go_ret
    exact ⟨rfl, rfl⟩
  · have d : decide (left - (len : Int) < 0) = false := by simp; omega
    rw [if_neg h]
    go_enter Tryd.func50, Tryd.ntmps50
    go_wp2_with fail
    go_ret
    exact ⟨rfl, rfl⟩
end Go.Proofs.YtinldhoimnbkhaaDoor
/- Proved: the walk of the statement on GoodWhole, under the contract of the program's own function. -/
namespace Go.Proofs.YtinldhoimnbkhaaDoor
open Go.ChangeShapes Go.WideShapes Go.ChangeAt Go.RowKit
open M2
set_option linter.unusedVariables false
set_option linter.unusedSimpArgs false
/-- a struct of two cells in a block of its own -/
abbrev StW (w : World) (k : Nat) (x y : Value) (t : TypeId) : Prop := w.heap[k]? = some (.cells #[x, y] t (0, 0))
theorem StW.c0 {w : World} {k : Nat} {x y : Value} {t : TypeId} (h : StW w k x y t) : w.cell? ⟨k, 0, none⟩ = some x := cell_of_row w k 0 _ t (0, 0) h
theorem StW.c1 {w : World} {k : Nat} {x y : Value} {t : TypeId} (h : StW w k x y t) : w.cell? ⟨k, 1, none⟩ = some y := cell_of_row w k 1 _ t (0, 0) h
theorem StW.f0 {w : World} {k : Nat} {x y : Value} {t : TypeId} (h : StW w k x y t) : w.frozen? ⟨k, 0, none⟩ = false := frozen_of_row w k 0 _ t h
theorem StW.f1 {w : World} {k : Nat} {x y : Value} {t : TypeId} (h : StW w k x y t) : w.frozen? ⟨k, 1, none⟩ = false := frozen_of_row w k 1 _ t h
theorem StW.lt {w : World} {k : Nat} {x y : Value} {t : TypeId} (h : StW w k x y t) : k < w.heap.size := (Array.getElem?_eq_some_iff.1 h).1
theorem StW.old {w w' : World} {k : Nat} {x y : Value} {t : TypeId} (h : StW w k x y t) (g : Old w w') : StW w' k x y t := (g.block k h.lt).trans h
end Go.Proofs.YtinldhoimnbkhaaDoor
