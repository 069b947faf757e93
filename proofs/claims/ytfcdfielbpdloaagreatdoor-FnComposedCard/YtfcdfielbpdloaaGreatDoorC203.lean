/- Proved: several texts in one: what each proves is said ahead of it. -/
import Derived.Test.YtfcdfielbpdloaaGreatDoorC200
import Derived.Deep.RegionWith
import Derived.Test.YtfcdfielbpdloaaGreatDoorC219
/- Proved: the walk of the statement on GoodWhole, under the contract of the program's own function. -/
namespace Go.Proofs.YtfcdfielbpdloaaGreatDoor
open Go.ChangeShapes Go.WideShapes Go.ChangeAt Go.RowKit
open M2
set_option linter.unusedVariables false
set_option linter.unusedSimpArgs false
abbrev StW (w : World) (k : Nat) (x y : Value) (t : TypeId) : Prop := w.heap[k]? = some (.cells #[x, y] t (0, 0))
theorem StW.c0 {w : World} {k : Nat} {x y : Value} {t : TypeId} (h : StW w k x y t) : w.cell? ⟨k, 0, none⟩ = some x := cell_of_row w k 0 _ t (0, 0) h
theorem StW.c1 {w : World} {k : Nat} {x y : Value} {t : TypeId} (h : StW w k x y t) : w.cell? ⟨k, 1, none⟩ = some y := cell_of_row w k 1 _ t (0, 0) h
theorem StW.f0 {w : World} {k : Nat} {x y : Value} {t : TypeId} (h : StW w k x y t) : w.frozen? ⟨k, 0, none⟩ = false := frozen_of_row w k 0 _ t h
theorem StW.f1 {w : World} {k : Nat} {x y : Value} {t : TypeId} (h : StW w k x y t) : w.frozen? ⟨k, 1, none⟩ = false := frozen_of_row w k 1 _ t h
theorem StW.lt {w : World} {k : Nat} {x y : Value} {t : TypeId} (h : StW w k x y t) : k < w.heap.size := (Array.getElem?_eq_some_iff.1 h).1
theorem StW.old {w w' : World} {k : Nat} {x y : Value} {t : TypeId} (h : StW w k x y t) (g : Old w w') : StW w' k x y t := (g.block k h.lt).trans h
theorem StW.new (w : World) (x y : Value) (t : TypeId) : StW (w.alloc (.cells #[x, y] t)) w.heap.size x y t := heap_alloc_new w _
end Go.Proofs.YtfcdfielbpdloaaGreatDoor
/- Proved: structs of two cells under writes into other blocks; no function of the program. -/
namespace Go.Proofs.YtfcdfielbpdloaaGreatDoor
open Go.ChangeShapes Go.WideShapes Go.ChangeAt Go.RowKit
set_option linter.unusedVariables false
set_option linter.unusedSimpArgs false
structure Made (w0 : World) (rb : Bool) (rl : List Nat) (W : World) (k : Nat) (a : Option Addr) (cap : Nat) : Prop where
  old : Old w0 W
  st : StW W k (.bool rb) (.slice a (toI rl).length cap) 27
  own : Own W w0.heap.size (.slice a (toI rl).length cap) (toI rl)
  lo : w0.heap.size ≤ k
theorem two_made {w0 w5 : World} {rb : Bool} {rl : List Nat} {a : Option Addr} {cap base k : Nat} (g : Old w0 w5) (o : Own w5 base (.slice a (toI rl).length cap) (toI rl)) (s : StW w5 k (.bool false) (.slice none 0 0) 27) (hb : w0.heap.size ≤ base) (hk : w0.heap.size ≤ k) (hne : k < base) :
    Made w0 rb rl ((w5.setCell ⟨k, 0, none⟩ (.bool rb)).setCell ⟨k, 1, none⟩ (.slice a (toI rl).length cap)) k a cap := by
  refine ⟨(g.own (p := ⟨k, 0, none⟩) hk _).own (p := ⟨k, 1, none⟩) hk _, ?_, ?_, hk⟩
  · have h1 := heap_setCell_same w5 k 0 _ _ (.bool rb) s
    have h2 := heap_setCell_same _ k 1 _ _ (.slice a (toI rl).length cap) h1
    exact h2
  · refine Own.low (base := base) (ownsRow_setCell_other (ownsRow_setCell_other o (fun e => ?_) _) (fun e => ?_) _) hb
    · have := (o.lt k e).1; omega
    · have := (o.lt k e).1; omega
end Go.Proofs.YtfcdfielbpdloaaGreatDoor
/- Proved: a struct in a block of its own stays where only others are written; no function of the program. -/
namespace Go.Proofs.YtfcdfielbpdloaaGreatDoor
open Go.ChangeShapes Go.WideShapes Go.ChangeAt Go.RowKit
set_option linter.unusedVariables false
set_option linter.unusedSimpArgs false
def Bk (w : World) (k : Nat) (cs : Array Value) (t : TypeId) : Prop := w.heap[k]? = some (.cells cs t (0, 0))
theorem Bk.lt {w : World} {k : Nat} {cs : Array Value} {t : TypeId} (h : Bk w k cs t) : k < w.heap.size := (Array.getElem?_eq_some_iff.1 h).1
theorem Bk.old {w w' : World} {k : Nat} {cs : Array Value} {t : TypeId} (h : Bk w k cs t) (g : Old w w') : Bk w' k cs t := (g.block k h.lt).trans h
theorem Bk.chg {w w' : World} {k : Nat} {cs : Array Value} {t : TypeId} {lo hi : Nat} (h : Bk w k cs t) (c : Chg w w' lo hi) (hk : k < lo ∨ hi ≤ k) : Bk w' k cs t := (c.block k h.lt hk).trans h
theorem Bk.new' (w : World) {k : Nat} (cs : Array Value) (t : TypeId) (hk : w.heap.size = k) : Bk (w.alloc (.cells cs t)) k cs t := by
  subst hk
  exact heap_alloc_new w _
theorem Bk.alloc {w : World} {k : Nat} {cs : Array Value} {t : TypeId} (h : Bk w k cs t) (o : Obj) : Bk (w.alloc o) k cs t := h.old ((Old.refl w).alloc o)
theorem Bk.c {w : World} {k : Nat} {cs : Array Value} {t : TypeId} (h : Bk w k cs t) {i : Nat} {v : Value} (hi : cs[i]? = some v) : w.cell? ⟨k, i, none⟩ = some v := by
  rw [← hi]
  exact cell_of_row w k i cs t (0, 0) h
end Go.Proofs.YtfcdfielbpdloaaGreatDoor
/- Proved: contracts of the model's functions on whole numbers of any length. -/
namespace Go.Proofs.YtfcdfielbpdloaaGreatDoor
open Go.ChangeShapes Go.WideShapes Go.ChangeAt Go.RowKit
open M2
set_option linter.unusedVariables false
set_option linter.unusedSimpArgs false
def sv (neg : Bool) (xs : List Nat) : Int := if neg then -(val xs : Int) else (val xs : Int)
def Gw (neg : Bool) (xs : List Nat) : Prop := Nrm xs ∧ (neg = true → xs ≠ [])
def ng (z : Int) : Bool := decide (z < 0)
def dg (z : Int) : List Nat := dig z.natAbs
theorem Gw.pos {neg : Bool} {xs : List Nat} (h : Gw neg xs) (hn : neg = true) : 0 < val xs := by
  rcases Nat.eq_zero_or_pos (val xs) with h0 | h0
  · exact absurd (val_zero_of h.1 h0) (h.2 hn)
  · exact h0
theorem of_sv {neg : Bool} {xs : List Nat} (h : Gw neg xs) : ng (sv neg xs) = neg ∧ dg (sv neg xs) = xs := by
  cases neg
  · unfold sv ng dg
    simp
    exact dig_val h.1
  · have := h.pos rfl
    unfold sv ng dg
    simp
    exact ⟨by omega, dig_val h.1⟩
end Go.Proofs.YtfcdfielbpdloaaGreatDoor
/- Proved: contracts of the model's sums, products and quotients of whole numbers, by what the numbers are worth. -/
namespace Go.Proofs.YtfcdfielbpdloaaGreatDoor
open Go.ChangeShapes Go.WideShapes Go.ChangeAt Go.RowKit
open M2
set_option linter.unusedVariables false
set_option linter.unusedSimpArgs false
theorem div_any (xs ys : List Nat) (v u : Value) (w : World) (hv : Row w v (toI xs)) (hu : Row w u (toI ys)) (ha : Lim xs) (hb : Nrm ys) (hl : ys ≠ []) (la : xs.length ≤ 1048576) (lb : ys.length ≤ 1048000) :
    Calls Tryz.prog 64 #[v, u] w fun e w' => ∃ v1 v2, e = .returned (.tuple #[v1, v2]) ∧ Old w w' ∧ Own w' w.heap.size v1 (toI (dig (val xs / val ys))) ∧ Own w' w.heap.size v2 (toI (dig (val xs % val ys))) := by
  by_cases h1 : ys.length = 1
  · obtain ⟨d, rfl⟩ := List.length_eq_one_iff.1 h1
    have hd : d ≠ 0 := by have := hb.2 (by simp); simpa using this
    have hd2 := hb.1.head
    have e : val [d] = d := by simp [val]
    rw [e]
    exact div1_any xs d v u w hv hu ha (by omega) hd2 la
  · have h0 : ys.length ≠ 0 := fun h => hl (List.length_eq_zero_iff.1 h)
    exact div2_any xs ys v u w hv hu ha hb (by omega) la lb
end Go.Proofs.YtfcdfielbpdloaaGreatDoor
/- Proved: contracts of the model's quotients down, of the nearest quotient, of words and of what is left, by what the numbers are worth. -/
namespace Go.Proofs.YtfcdfielbpdloaaGreatDoor
open Go.ChangeShapes Go.WideShapes Go.ChangeAt Go.RowKit
open M2
set_option linter.unusedVariables false
set_option linter.unusedSimpArgs false
theorem div_unique (a : Int) (b : Nat) (q : Int) (r : Nat) (hr : r < b) (h : (r : Int) + (b : Int) * q = a) : a / (b : Int) = q ∧ a % (b : Int) = (r : Int) :=
  (Int.ediv_emod_unique (by omega)).2 ⟨h, by omega, by omega⟩
theorem down_exact_eq (xs : List Nat) (D : Nat) (hD : 0 < D) (h0 : val xs % D = 0) : decide (0 < (dig (val xs / D)).length) = ng (sv true xs / (D : Int)) ∧ dig (val xs / D) = dg (sv true xs / (D : Int)) ∧ 0 = (sv true xs % (D : Int)).toNat := by
  obtain ⟨e1, e2⟩ := div_unique (sv true xs) D (-((val xs / D : Nat) : Int)) 0 hD (by
    have := Nat.mod_add_div (val xs) D
    rw [h0] at this
    unfold sv
    simp only [if_true]
    rw [Int.mul_neg, ← Int.natCast_mul]
    omega)
  rw [e1, e2]
  refine ⟨?_, by simp only [dg, Int.natAbs_neg, Int.natAbs_natCast], by simp⟩
  unfold ng
  rw [decide_eq_decide]
  constructor
  · intro h
    rcases Nat.eq_zero_or_pos (val xs / D) with h1 | h1
    · rw [h1, dig_zero] at h; simp at h
    · omega
  · intro h
    have := dig_ne (n := val xs / D) (by omega)
    rcases Nat.eq_zero_or_pos (dig (val xs / D)).length with h2 | h2
    · exact absurd (List.length_eq_zero_iff.1 h2) this
    · exact h2
theorem down_up_eq (xs : List Nat) (D : Nat) (hD : 0 < D) (h0 : 0 < val xs % D) : true = ng (sv true xs / (D : Int)) ∧ dig (val xs / D + 1) = dg (sv true xs / (D : Int)) ∧ D - val xs % D = (sv true xs % (D : Int)).toNat := by
  have hm := Nat.mod_lt (val xs) hD
  obtain ⟨e1, e2⟩ := div_unique (sv true xs) D (-((val xs / D + 1 : Nat) : Int)) (D - val xs % D) (by omega) (by
    have := Nat.mod_add_div (val xs) D
    have e : D * (val xs / D + 1) = D * (val xs / D) + D := by rw [Nat.mul_add, Nat.mul_one]
    unfold sv
    simp only [if_true]
    rw [Int.mul_neg, ← Int.natCast_mul, e]
    omega)
  rw [e1, e2]
  refine ⟨?_, by simp only [dg, Int.natAbs_neg, Int.natAbs_natCast], (Int.toNat_natCast _).symm⟩
  generalize val xs / D = k
  simp only [ng]; symm; apply decide_eq_true; omega
end Go.Proofs.YtfcdfielbpdloaaGreatDoor
/- Proved: contracts of the model's nearest quotient, of words as whole numbers, of what is left by a word and of comparing, by what the numbers are worth. -/
namespace Go.Proofs.YtfcdfielbpdloaaGreatDoor
open Go.ChangeShapes Go.WideShapes Go.ChangeAt Go.RowKit
open M2
set_option linter.unusedVariables false
set_option linter.unusedSimpArgs false
set_option maxHeartbeats 4000000 in
theorem modulo_any (n : Bool) (xs : List Nat) (m : Nat) (v : Value) (w : World) (hv : Row w v (toI xs)) (ha : Lim xs) (la : xs.length ≤ 2000) (hm : 1 ≤ m) (hm' : m ≤ 268435456) :
    Calls Tryz.prog 74 #[.agg #[.bool n, v], .int .i64 m] w fun e w' => e = .returned (.int .i64 (sv n xs % (m : Int))) ∧ Old w w' := by
  have HV : Hid (Row w v (toI xs)) := hv
  obtain ⟨a0, cap0, rfl⟩ := hv.sliceN
  clear hv
  have hlt : val xs % m < m := Nat.mod_lt _ (by omega)
  have e0 : sv false xs % (m : Int) = ((val xs % m : Nat) : Int) := by simp [sv]
  have e1 : 0 < val xs % m → sv true xs % (m : Int) = (m : Int) - ((val xs % m : Nat) : Int) := fun h => by
    have := (down_up_eq xs m (by omega) h).2.2
    have h2 := Int.emod_nonneg (sv true xs) (show (m : Int) ≠ 0 by omega)
    omega
  have e2 : val xs % m = 0 → sv true xs % (m : Int) = ((val xs % m : Nat) : Int) := fun h => by
    have := (down_exact_eq xs m (by omega) h).2.2
    have h2 := Int.emod_nonneg (sv true xs) (show (m : Int) ≠ 0 by omega)
    omega
  have c := fun W (h : Row W (.slice a0 xs.length cap0) (toI xs)) => word_any xs m _ W h ha (by omega) hm hm'
  generalize val xs % m = r at *
  have key : ∀ (z : Int), (n = false → z = (r : Int)) → (n = true → 0 < r → z = (m : Int) - (r : Int)) → (n = true → r = 0 → z = (r : Int)) →
      Calls Tryz.prog 74 #[.agg #[.bool n, .slice a0 xs.length cap0], .int .i64 m] w fun e w' => e = .returned (.int .i64 z) ∧ Old w w' := by
    intro z h1 h2 h3
    clear e0 e1 e2
    cases n with
    | false =>
      have := h1 rfl
      subst this
      clear h1 h2 h3
      go_enter Tryz.func74, Tryz.ntmps74
      go_wp2_with fail
      refine (c _ (HV.out.old ((Old.refl w).alloc _))).mono ?_
      rintro e w2 ⟨rfl, g2⟩
      have q0 : w2.cell? ⟨w.heap.size, 0, none⟩ = some (Value.bool false) := (g2.cell (p := ⟨w.heap.size, 0, none⟩) (by simp)).trans (cell_at _ _ _ _ _ rfl)
      have HG : Hid (Old w w2) := Old.trans ((Old.refl w).alloc _) g2
      clear g2
      go_wp2_with fail
      go_ret
      exact ⟨rfl, HG.out⟩
    | true =>
      rcases Nat.eq_zero_or_pos r with h0 | h0
      · have := h3 rfl h0
        subst this
        have d0 : decide (0 < r) = false := decide_eq_false (by omega)
        clear h1 h2 h3 h0
        go_enter Tryz.func74, Tryz.ntmps74
        go_wp2_with fail
        refine (c _ (HV.out.old ((Old.refl w).alloc _))).mono ?_
        rintro e w2 ⟨rfl, g2⟩
        have q0 : w2.cell? ⟨w.heap.size, 0, none⟩ = some (Value.bool true) := (g2.cell (p := ⟨w.heap.size, 0, none⟩) (by simp)).trans (cell_at _ _ _ _ _ rfl)
        have HG : Hid (Old w w2) := Old.trans ((Old.refl w).alloc _) g2
        clear g2
        go_wp2_with fail
        go_ret
        exact ⟨rfl, HG.out⟩
      · have := h2 rfl h0
        subst this
        have d0 : decide (0 < r) = true := decide_eq_true h0
        clear h1 h2 h3
        go_enter Tryz.func74, Tryz.ntmps74
        go_wp2_with fail
        refine (c _ (HV.out.old ((Old.refl w).alloc _))).mono ?_
        rintro e w2 ⟨rfl, g2⟩
        have q0 : w2.cell? ⟨w.heap.size, 0, none⟩ = some (Value.bool true) := (g2.cell (p := ⟨w.heap.size, 0, none⟩) (by simp)).trans (cell_at _ _ _ _ _ rfl)
        have HG : Hid (Old w w2) := Old.trans ((Old.refl w).alloc _) g2
        clear g2
        go_wp2_with fail
        go_ret
        exact ⟨rfl, HG.out⟩
  refine key _ (fun h => ?_) (fun h h0 => ?_) (fun h h0 => ?_)
  · subst h; exact e0
  · subst h; exact e1 h0
  · subst h; exact e2 h0
end Go.Proofs.YtfcdfielbpdloaaGreatDoor
