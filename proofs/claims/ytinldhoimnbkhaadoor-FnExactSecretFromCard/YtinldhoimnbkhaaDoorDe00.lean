/- Proved: several texts in one: what each proves is said ahead of it. -/
import Derived.Deep.RegionWith
import Derived.Deep.RegionHeld3
import Derived.Deep.DeepCutAuto
import Derived.Conc.LoneCalls
import Derived.Test.YtinldhoimnbkhaaDoorCards
import Derived.Test.YtinldhoimnbkhaaDoorTie
import Derived.Deep.DeepHandedRow
import Derived.Lib.LaidTab
import Derived.Stop.LaidErr
import Derived.Lib.SmallJoins
import Derived.Test.YtinldhoimnbkhaaDoorDb00
import Derived.Test.YtinldhoimnbkhaaDoorDb01
import Derived.Test.YtinldhoimnbkhaaDoorModel
import Derived.Test.YtinldhoimnbkhaaDoorLen
import Derived.Test.YtinldhoimnbkhaaDoorDiv
import Derived.Test.YtinldhoimnbkhaaDoorRem2
import Derived.Test.YtinldhoimnbkhaaDoorBoth
import Derived.Test.YtinldhoimnbkhaaDoorDb02
import Derived.Test.YtinldhoimnbkhaaDoorDb15
import Derived.Test.YtinldhoimnbkhaaDoorDb03
import Derived.Test.YtinldhoimnbkhaaDoorDb04
import Derived.Test.YtinldhoimnbkhaaDoorDb05
import Derived.Test.YtinldhoimnbkhaaDoorDb06
import Derived.Test.YtinldhoimnbkhaaDoorDb07
import Derived.Test.YtinldhoimnbkhaaDoorSzAdd
import Derived.Test.YtinldhoimnbkhaaDoorDb08
import Derived.Test.YtinldhoimnbkhaaDoorDb09
import Derived.Test.YtinldhoimnbkhaaDoorDb10
import Derived.Test.YtinldhoimnbkhaaDoorDb11
import Derived.Test.YtinldhoimnbkhaaDoorDb14
import Derived.Test.YtinldhoimnbkhaaDoorDb12
import Derived.Test.YtinldhoimnbkhaaDoorDb13
import Derived.Test.YtinldhoimnbkhaaDoorRegGoodCipherA
import Derived.Test.YtinldhoimnbkhaaDoorLawGoodCipher
import Derived.Test.YtinldhoimnbkhaaDoorBackS
import Derived.Test.YtinldhoimnbkhaaDoorDb18
import Derived.Test.YtinldhoimnbkhaaDoorRegS
import Derived.Test.YtinldhoimnbkhaaDoorMlr
import Derived.Test.YtinldhoimnbkhaaDoorRcr
import Derived.Test.YtinldhoimnbkhaaDoorRRs3
import Derived.Test.YtinldhoimnbkhaaDoorDb25
import Derived.Test.YtinldhoimnbkhaaDoorDb24
import Derived.Test.YtinldhoimnbkhaaDoorFrameP
import Derived.Test.YtinldhoimnbkhaaDoorFrameC
/- Proved: contracts of the statements' own helpers over slices of ints: sizes, copies, comparisons, marks. -/
namespace Go.Proofs.YtinldhoimnbkhaaDoor
open Go.ChangeShapes Go.WideShapes Go.ChangeAt Go.RowKit
set_option linter.unusedVariables false
set_option linter.unusedSimpArgs false
theorem marks_len (k : Int) (n : Nat) : (marks k n).length = n := by simp [marks]
theorem marks_get (k : Int) (n j : Nat) (h : j < n) : (marks k n).getD j 0 = k + j := by simp [marks, List.getD, h]
/-- the first j marked -/
def markN (xs : List Int) (k : Int) (j : Nat) : List Int := marks k j ++ xs.drop j
theorem markN_len (xs : List Int) (k : Int) (j : Nat) (h : j ≤ xs.length) : (markN xs k j).length = xs.length := by simp [markN, marks_len]; omega
theorem markN_zero (xs : List Int) (k : Int) : markN xs k 0 = xs := by simp [markN, marks]
theorem markN_all (xs : List Int) (k : Int) : markN xs k xs.length = marks k xs.length := by simp [markN]
theorem markN_set (xs : List Int) (k : Int) (j : Nat) (h : j < xs.length) : (markN xs k j).set j (k + j) = markN xs k (j + 1) := by
  unfold markN
  rw [List.set_append_right _ _ (by rw [marks_len]; exact Nat.le_refl _), marks_len, Nat.sub_self, List.drop_eq_getElem_cons h, List.set_cons_zero]
  unfold marks
  rw [List.range_succ, List.map_append]
  simp
set_option maxHeartbeats 1000000 in
theorem markInts_any (xs : List Int) (v : Value) (k : Int) (base : Nat) (w : World) (h : Own w base v xs) (hl : xs.length ≤ 1073741824) (hk : 0 ≤ k) (hk' : k ≤ 1073741824) :
    Calls Tryd.prog 39 #[v, .int .i64 k] w fun e w' => e = .returned (.int .i64 (k + xs.length)) ∧ w.grownBy w' v.ownBlock ∧ Own w' base v (marks k xs.length) := by
  by_cases h0 : xs.length = 0
  · obtain rfl := List.length_eq_zero_iff.1 h0
    have HF : Hid (Own w base v (marks k 0)) := h
    obtain ⟨a0, cap0, rfl⟩ := (Own.row h).slice
    clear h
    go_enter Tryd.func39, Tryd.ntmps39
    go_wp2_with fail
    refine wp_loop_rounds 1 ?_
    rw [rounds_succ]
    go_wp2_with fail
    go_ret
    exact ⟨by simp, World.grownBy.refl _ _, HF.out⟩
  · obtain ⟨g, cap, rfl⟩ : ∃ g cap, v = .slice (some ⟨g, 0, none⟩) xs.length cap := by
      rcases h.2 with ⟨_, h1⟩ | ⟨g, cap, cur, e, _⟩
      · exact absurd h1 h0
      · exact ⟨g, cap, e⟩
    have HO : Hid (w.ownsRow base 3 1 (.slice (some ⟨g, 0, none⟩) xs.length cap) xs.length ((markN xs k 0).map (Value.int .i64))) := by rw [markN_zero]; exact h
    clear h
    go_enter Tryd.func39, Tryd.ntmps39
    go_wp2_with fail
    go_loopw [1, 5] (fun m i W => ∃ j : Nat, j ≤ xs.length ∧ i = .int .i64 j ∧ m = .int .i64 (k + j) ∧ Hid (W.ownsRow base 3 1 (.slice (some ⟨g, 0, none⟩) xs.length cap) xs.length ((markN xs k j).map (Value.int .i64))) ∧ Hid (w.grownBy W (some g))) (fun _ i _ => xs.length - (intOf i).toNat)
    case atStart => exact ⟨0, by omega, rfl, by go_num, HO, World.grownBy.refl _ _⟩
    case round =>
      obtain ⟨j, hj, rfl, rfl, HO1, HG1⟩ := hrel
      clear HO
      by_cases hlt : j < xs.length
      · have d1 : decide ((j : Int) < (xs.length : Int)) = true := by simp; omega
        have c2 : wr.cell? ⟨g, j, none⟩ = some (.int .i64 ((markN xs k j).getD j 0)) := by
          rw [World.ownsRow.cellAt HO1.out j (by omega)]
          have := markN_len xs k j hj
          simp [List.getD, this, hlt]
        have c3 : wr.frozen? ⟨g, j, none⟩ = false := World.ownsRow.frozenAt HO1.out j
        have st := World.ownsRow.stored HO1.out j (.int .i64 (k + j))
        have HS : Hid ((wr.setCell ⟨g, j, none⟩ (.int .i64 (k + j))).ownsRow base 3 1 (.slice (some ⟨g, 0, none⟩) xs.length cap) xs.length ((markN xs k (j + 1)).map (Value.int .i64))) := by
          have := st.1
          rw [← List.map_set, markN_set xs k j hlt] at this
          exact this
        have HG2 : Hid (w.grownBy (wr.setCell ⟨g, j, none⟩ (.int .i64 (k + j))) (some g)) :=
          ⟨st.2.os.trans HG1.out.os, st.2.tape.trans HG1.out.tape, st.2.output.trans HG1.out.output, Nat.le_trans HG1.out.size st.2.size, fun p hp hne => (st.2.block p (Nat.lt_of_lt_of_le hp HG1.out.size) hne).trans (HG1.out.block p hp hne)⟩
        generalize (markN xs k j).getD j 0 = y at *
        clear st HO1 HG1
        go_wp2_with fail
        exact ⟨⟨j + 1, by omega, by go_num, by go_num, HS, HG2⟩, by simp [intOf]; omega⟩
      · have d1 : decide ((j : Int) < (xs.length : Int)) = false := by simp; omega
        obtain rfl : j = xs.length := by omega
        have HF := HO1.out
        rw [markN_all] at HF
        have HF' : Hid (Own wr base (.slice (some ⟨g, 0, none⟩) xs.length cap) (marks k xs.length)) := by unfold Own; rw [marks_len]; exact HF
        clear HF HO1
        go_wp2_with fail
        go_ret
        exact ⟨rfl, HG1.out, HF'.out⟩
set_option maxHeartbeats 1000000 in
theorem heldInts_yes (n : Nat) (v : Value) (k : Int) (w : World) (h : Row w v (marks k n)) (hl : n ≤ 1073741824) (hk : 0 ≤ k) (hk' : k ≤ 1073741824) :
    Calls Tryd.prog 40 #[v, .int .i64 k] w fun e w' => e = .returned (.int .i64 (k + n)) ∧ Old w w' := by
  rcases h with ⟨a0, cap0, rfl, e2⟩ | ⟨b, o, cap, rfl, hb, h0, hc⟩
  · have hn := congrArg List.length e2
    rw [marks_len] at hn
    obtain rfl : n = 0 := by simpa using hn
    clear e2 hn
    go_enter Tryd.func40, Tryd.ntmps40
    go_wp2_with fail
    refine wp_loop_rounds 1 ?_
    rw [rounds_succ]
    go_wp2_with fail
    go_ret
    exact ⟨by simp, Old.refl _⟩
  · rw [marks_len] at hc ⊢
    have HC : Hid (∀ j, j < n → w.cell? ⟨b, o + j, none⟩ = some (.int .i64 (k + j))) := fun j hj => by rw [hc j hj, marks_get k n j hj]
    clear hc h0
    go_enter Tryd.func40, Tryd.ntmps40
    go_wp2_with fail
    go_loopw [1, 5] (fun m i W => ∃ j : Nat, j ≤ n ∧ i = .int .i64 j ∧ m = .int .i64 (k + j) ∧ Hid (Old w W)) (fun _ i _ => n - (intOf i).toNat)
    case atStart => exact ⟨0, by omega, rfl, by go_num, Old.refl _⟩
    case round =>
      obtain ⟨j, hj, rfl, rfl, HG⟩ := hrel
      by_cases hlt : j < n
      · have d1 : decide ((j : Int) < (n : Int)) = true := by simp; omega
        have c1 : wr.cell? ⟨b, o + j, none⟩ = some (.int .i64 (k + j)) := (HG.out.cell (p := ⟨b, o + j, none⟩) hb).trans (HC.out j hlt)
        have dx : (k + (j : Int) != k + (j : Int)) = false := by simp
        go_wp2_with fail
        exact ⟨⟨j + 1, by omega, by go_num, by go_num, HG⟩, by simp [intOf]; omega⟩
      · have d1 : decide ((j : Int) < (n : Int)) = false := by simp; omega
        obtain rfl : j = n := by omega
        go_wp2_with fail
        go_ret
        exact ⟨rfl, HG.out⟩
end Go.Proofs.YtinldhoimnbkhaaDoor
/- Proved: what lies between two block numbers stays as it is where only others are written; no function of the program. -/
namespace Go.Proofs.YtinldhoimnbkhaaDoor
open Go.ChangeShapes Go.WideShapes Go.ChangeAt Go.RowKit
set_option linter.unusedVariables false
set_option linter.unusedSimpArgs false
theorem Old.toChg {w w' : World} (h : Old w w') (lo hi : Nat) : Chg w w' lo hi := ⟨h.os, h.tape, h.output, h.size, fun b hb _ => h.block b hb⟩
theorem Chg.wide {w w' : World} {lo hi lo' hi' : Nat} (h : Chg w w' lo hi) (h1 : lo' ≤ lo) (h2 : hi ≤ hi') : Chg w w' lo' hi' :=
  ⟨h.os, h.tape, h.output, h.size, fun b hb ho => h.block b hb (by omega)⟩
theorem Old.chg {a w w' : World} {lo hi : Nat} (h : Old a w) (c : Chg w w' lo hi) (hlo : a.heap.size ≤ lo) : Old a w' :=
  ⟨c.os.trans h.os, c.tape.trans h.tape, c.output.trans h.output, Nat.le_trans h.size c.size, fun b hb => (c.block b (Nat.lt_of_lt_of_le hb h.size) (Or.inl (Nat.lt_of_lt_of_le hb hlo))).trans (h.block b hb)⟩
theorem chg_by {w w' : World} {ob : Option Nat} {lo hi : Nat} (g : w.grownBy w' ob) (hb : ∀ b, ob = some b → lo ≤ b ∧ b < hi) : Chg w w' lo hi :=
  ⟨g.os, g.tape, g.output, g.size, fun b hl ho => g.block b hl (fun h => by have := hb b h.symm; omega)⟩
theorem Far.chg {α : Type} {R : World → Nat → Nat → α → Prop} (f : Far R) {W W' : World} {lo hi lo' hi' : Nat} {v : α} (h : R W lo hi v) (c : Chg W W' lo' hi') (hh : hi ≤ W.heap.size) (hd : hi ≤ lo' ∨ hi' ≤ lo) : R W' lo hi v :=
  f W W' lo hi v h (fun b h1 h2 => c.block b (by omega) (by omega)) c.size
theorem Own.chg {w w' : World} {base lo hi : Nat} {v : Value} {xs : List Int} (h : Own w base v xs) (c : Chg w w' lo hi) (hne : ∀ g, v.ownBlock = some g → g < lo ∨ hi ≤ g) : Own w' base v xs := by
  refine ⟨h.1, ?_⟩
  rcases h.2 with hn | ⟨p, cap, cur, rfl, hb, hgg, rest⟩
  · exact .inl hn
  · refine .inr ⟨p, cap, cur, rfl, hb, ?_, rest⟩
    rw [c.block p (Array.getElem?_eq_some_iff.1 hgg).1 (hne p rfl)]
    exact hgg
theorem Row.chg {w w' : World} {lo hi : Nat} {v : Value} {xs : List Int} (h : Row w v xs) (c : Chg w w' lo hi) (hne : ∀ b o n cap, v = .slice (some ⟨b, o, none⟩) n cap → b < lo ∨ hi ≤ b) : Row w' v xs := by
  rcases h with h1 | ⟨b, o, cap, e, hb, h0, hc⟩
  · exact Or.inl h1
  · refine Or.inr ⟨b, o, cap, e, Nat.lt_of_lt_of_le hb c.size, h0, fun j hj => ?_⟩
    rw [← hc j hj]
    exact World.cell?_of_block (c.block b hb (hne b o _ cap e))
end Go.Proofs.YtinldhoimnbkhaaDoor
/- Proved: a struct of two cells stays where only others are written; no function of the program. -/
namespace Go.Proofs.YtinldhoimnbkhaaDoor
open Go.ChangeShapes Go.WideShapes Go.ChangeAt Go.RowKit
set_option linter.unusedVariables false
set_option linter.unusedSimpArgs false
theorem StW.chg {w w' : World} {k : Nat} {x y : Value} {t : TypeId} {lo hi : Nat} (s : StW w k x y t) (c : Chg w w' lo hi) (hk : k < lo ∨ hi ≤ k) : StW w' k x y t := (c.block k s.lt hk).trans s
end Go.Proofs.YtinldhoimnbkhaaDoor
/- Proved: a struct in a block of its own stays where only others are written; no function of the program. -/
namespace Go.Proofs.YtinldhoimnbkhaaDoor
open Go.ChangeShapes Go.WideShapes Go.ChangeAt Go.RowKit
set_option linter.unusedVariables false
set_option linter.unusedSimpArgs false
theorem Bk.chg {w w' : World} {k : Nat} {cs : Array Value} {t : TypeId} {lo hi : Nat} (h : Bk w k cs t) (c : Chg w w' lo hi) (hk : k < lo ∨ hi ≤ k) : Bk w' k cs t := (c.block k h.lt hk).trans h
end Go.Proofs.YtinldhoimnbkhaaDoor
/- Proved: the walk of the statement FnExactSecretFrom, under what each function that it calls does. -/
namespace Go.Proofs.YtinldhoimnbkhaaDoor
open Go.ChangeShapes Go.WideShapes Go.ChangeAt Go.RowKit
set_option linter.unusedVariables false
set_option linter.unusedSimpArgs false
set_option maxRecDepth 100000 in
set_option maxHeartbeats 16000000 in
theorem law9_SecretFrom (w : World) (Np0 Tp0 Ep0 : Int) (lp0 : Nat) (ap0 : Option Addr) (cp0 : Nat) (lp1 : Nat) (ap1 : Option Addr) (cp1 : Nat) (Np2 : Int) (lr0 : Nat) (Nr1 : Int) (br2 : Bool) (L0 : Int)
    (csz0 : ¬ (1048576 : Int) < (lp1 : Int) → ∀ W, Old w W → Calls Tryd.prog 29 #[.agg #[.int .i64 Np0, .int .i64 Tp0, .int .i64 Ep0, .slice ap0 lp0 cp0], .int .i64 1048576] W fun e w' => e = .returned (.int .i64 L0) ∧ Old W w')
    (X0 : World → Nat → Nat → Array Value → Prop) (fX0 : Far X0) (hX0 : ∀ W lo hi g, X0 W lo hi g → ∃ a c, g = #[.int .i64 Np0, .int .i64 Tp0, .int .i64 Ep0, .slice a lp0 c])
    (cto0 : ¬ (1048576 : Int) < (lp1 : Int) → ¬ L0 < 0 → ∀ W, Old w W → Calls Tryd.prog 31 #[.agg #[.int .i64 Np0, .int .i64 Tp0, .int .i64 Ep0, .slice ap0 lp0 cp0]] W fun e w' => ∃ g, e = .returned (.agg g) ∧ Old W w' ∧ X0 w' W.heap.size w'.heap.size g)
    (ceq0 : ¬ (1048576 : Int) < (lp1 : Int) → ¬ L0 < 0 → ∀ W lo hi g lo' hi' g', X0 W lo hi g → X0 W lo' hi' g' → Calls Tryd.prog 33 #[.agg g, .agg g'] W fun e w' => e = .returned (.bool true) ∧ Old W w')
    (k0 : Int) (hk0 : 0 ≤ k0) (cmk0 : ¬ (1048576 : Int) < (lp1 : Int) → ¬ L0 < 0 → ∀ W lo hi g, X0 W lo hi g → Calls Tryd.prog 38 #[.agg g, .int .i64 1] W fun e w' => e = .returned (.int .i64 k0) ∧ Chg W w' lo hi)
    (X1 : World → Nat → Nat → Value → Prop) (fX1 : Far X1) (hX1 : ∀ W lo hi g, X1 W lo hi g → ∃ a c, g = (.slice a lp1 c))
    (cto1 : ¬ (1048576 : Int) < (lp1 : Int) → ¬ L0 < 0 → ∀ W, Old w W → Calls Tryd.prog 35 #[.slice ap1 lp1 cp1] W fun e w' => ∃ g, e = .returned (g) ∧ Old W w' ∧ X1 w' W.heap.size w'.heap.size g)
    (ceq1 : ¬ (1048576 : Int) < (lp1 : Int) → ¬ L0 < 0 → ∀ W lo hi g lo' hi' g', X1 W lo hi g → X1 W lo' hi' g' → Calls Tryd.prog 37 #[g, g'] W fun e w' => e = .returned (.bool true) ∧ Old W w')
    (k1 : Int) (hk1 : 0 ≤ k1) (cmk1 : ¬ (1048576 : Int) < (lp1 : Int) → ¬ L0 < 0 → ∀ W lo hi g, X1 W lo hi g → Calls Tryd.prog 39 #[g, .int .i64 k0] W fun e w' => e = .returned (.int .i64 k1) ∧ Chg W w' lo hi)
    (SR : World → Nat → Nat → Value → Prop) (fSR : Far SR) (hSR : ∀ W lo hi p, SR W lo hi p → ∃ a0 c0, p = (.slice a0 lr0 c0))
    (IR0 : World → Nat → Nat → Value → Prop) (fIR0 : Far IR0) (hIR0 : ∀ W lo hi p, IR0 W lo hi p → ∃ a0 c0, p = (.slice a0 lr0 c0))
    (IR1 : World → Nat → Nat → Value → Prop) (fIR1 : Far IR1) (hIR1 : ∀ W lo hi p, IR1 W lo hi p → ∃ a0 c0, p = (.slice a0 lr0 c0))
    (csp : ¬ (1048576 : Int) < (lp1 : Int) → ¬ L0 < 0 → ∀ W lo0 hi0 g0 lo1 hi1 g1, X0 W lo0 hi0 g0 → X1 W lo1 hi1 g1 → Old w W → Calls Tryd.prog 34 #[.agg g0, g1, .int .i64 Np2] W fun e w' => ∃ r0, e = .returned (.tuple #[r0, .int .i64 Nr1, .bool br2]) ∧ Old W w' ∧ SR w' W.heap.size w'.heap.size r0)
    (cim : ¬ (1048576 : Int) < (lp1 : Int) → ¬ L0 < 0 → ∀ W lo0 hi0 g0 lo1 hi1 g1, X0 W lo0 hi0 g0 → X1 W lo1 hi1 g1 → Old w W → Calls Tryd.prog 36 #[.agg g0, g1, .int .i64 Np2] W fun e w' => ∃ r0, e = .returned (.tuple #[r0, .int .i64 Nr1, .bool br2]) ∧ Old W w' ∧ IR0 w' W.heap.size w'.heap.size r0)
    (cer0 : ¬ (1048576 : Int) < (lp1 : Int) → ¬ L0 < 0 → ∀ W lo hi p lo' hi' p', IR0 W lo hi p → SR W lo' hi' p' → Calls Tryd.prog 37 #[p, p'] W fun e w' => e = .returned (.bool true) ∧ Old W w')
    (m0 : Int) (hm0 : 0 ≤ m0) (cmr0 : ¬ (1048576 : Int) < (lp1 : Int) → ¬ L0 < 0 → ∀ W lo hi p, IR0 W lo hi p → Calls Tryd.prog 39 #[p, .int .i64 1] W fun e w' => e = .returned (.int .i64 m0) ∧ Chg W w' lo hi ∧ IR1 w' lo hi p)
    (chr0 : ¬ (1048576 : Int) < (lp1 : Int) → ¬ L0 < 0 → ∀ W lo hi p, IR1 W lo hi p → Calls Tryd.prog 40 #[p, .int .i64 1] W fun e w' => e = .returned (.int .i64 m0) ∧ Old W w') :
    Calls Tryd.prog 8 #[.agg #[.int .i64 Np0, .int .i64 Tp0, .int .i64 Ep0, .slice ap0 lp0 cp0], .slice ap1 lp1 cp1, .int .i64 Np2] w fun e w' => e = .returned (.bool true) ∧ Old w w' := by
  have HA : Hid (Old w (w.alloc (.cells #[.int .i64 Np0, .int .i64 Tp0, .int .i64 Ep0, .slice ap0 lp0 cp0] 44))) := ((Old.refl w).alloc _)
  have BA0 : Hid (Bk (w.alloc (.cells #[.int .i64 Np0, .int .i64 Tp0, .int .i64 Ep0, .slice ap0 lp0 cp0] 44)) (w.heap.size) #[.int .i64 Np0, .int .i64 Tp0, .int .i64 Ep0, .slice ap0 lp0 cp0] 44) := (Bk.new' w _ _ (by simp))
  by_cases hL1 : (1048576 : Int) < (lp1 : Int)
  · have dL1 : decide ((1048576 : Int) < (lp1 : Int)) = true := decide_eq_true hL1
    clear csz0 ceq0 cto0 ceq1 cto1 csp cim cer0 cmr0 chr0
    go_enter Tryd.func8, Tryd.ntmps8
    go_wp2_with fail
    go_ret
    exact ⟨rfl, HA.out⟩
  have dL1 : decide ((1048576 : Int) < (lp1 : Int)) = false := decide_eq_false hL1
  by_cases hL0 : L0 < 0
  · have dL0 : decide (L0 < 0) = true := decide_eq_true hL0
    go_enter Tryd.func8, Tryd.ntmps8
    go_wp2_with fail
    refine (csz0 hL1 _ (HA.out)).mono ?_
    rintro e s0 ⟨rfl, g0⟩
    have HS0 : Hid (Old w s0) := Old.trans HA.out g0
    clear g0
    go_wp2_with fail
    go_ret
    exact ⟨rfl, HS0.out⟩
  have dL0 : decide (L0 < 0) = false := decide_eq_false hL0
  have TO0 : Hid (∀ W, Old w W → Calls Tryd.prog 31 #[.agg #[.int .i64 Np0, .int .i64 Tp0, .int .i64 Ep0, .slice ap0 lp0 cp0]] W fun e w' => ∃ g, e = .returned (.agg g) ∧ Old W w' ∧ X0 w' W.heap.size w'.heap.size g) := cto0 hL1 hL0
  replace ceq0 := ceq0 hL1 hL0
  replace cmk0 := cmk0 hL1 hL0
  clear cto0
  have TO1 : Hid (∀ W, Old w W → Calls Tryd.prog 35 #[.slice ap1 lp1 cp1] W fun e w' => ∃ g, e = .returned (g) ∧ Old W w' ∧ X1 w' W.heap.size w'.heap.size g) := cto1 hL1 hL0
  replace ceq1 := ceq1 hL1 hL0
  replace cmk1 := cmk1 hL1 hL0
  clear cto1
  replace csp := csp hL1 hL0
  replace cim := cim hL1 hL0
  replace cer0 := cer0 hL1 hL0
  replace cmr0 := cmr0 hL1 hL0
  replace chr0 := chr0 hL1 hL0
  have dro1 : (Nr1 != Nr1) = false := by simp
  have dro2 : (br2 != br2) = false := by simp
  go_enter Tryd.func8, Tryd.ntmps8
  go_wp2_with fail
  refine (csz0 hL1 _ (HA.out)).mono ?_
  rintro e s0 ⟨rfl, g0⟩
  have HS0 : Hid (Old w s0) := Old.trans HA.out g0
  have BS0_0 : Hid (Bk s0 (w.heap.size) #[.int .i64 Np0, .int .i64 Tp0, .int .i64 Ep0, .slice ap0 lp0 cp0] 44) := BA0.out.old g0
  clear g0
  have HG_0 : Hid (Old w s0) := HS0.out
  have A0_0 : Hid (Bk s0 (w.heap.size) #[.int .i64 Np0, .int .i64 Tp0, .int .i64 Ep0, .slice ap0 lp0 cp0] 44) := BS0_0.out
  have hsw : w.heap.size + 1 ≤ s0.heap.size := by have := A0_0.out.lt; omega
  clear csz0 BA0 HA HS0 BS0_0
  have zA0_0 := A0_0.out.c (i := 0) rfl
  have zA0_1 := A0_0.out.c (i := 1) rfl
  have zA0_2 := A0_0.out.c (i := 2) rfl
  have zA0_3 := A0_0.out.c (i := 3) rfl
  go_wp2_with fail
  refine (TO0.out _ (HG_0.out)).mono ?_
  rintro e b0 ⟨y_, rfl, g_, o_⟩
  obtain ⟨ab0, cb0, rfl⟩ := hX0 _ _ _ _ o_
  clear zA0_0 zA0_1 zA0_2 zA0_3
  have hsb0 : s0.heap.size ≤ b0.heap.size := by have := g_.size; first | exact this | (simp at this; omega)
  have HG_1 : Hid (Old w b0) := Old.trans HG_0.out (g_)
  have A0_1 : Hid (Bk b0 (w.heap.size) #[.int .i64 Np0, .int .i64 Tp0, .int .i64 Ep0, .slice ap0 lp0 cp0] 44) := A0_0.out.old (g_)
  clear HG_0 A0_0
  have Rb0_1 : Hid (X0 b0 (s0.heap.size) (b0.heap.size) #[.int .i64 Np0, .int .i64 Tp0, .int .i64 Ep0, .slice ab0 lp0 cb0]) := (by first | exact o_ | (simp at o_; exact o_))
  clear g_ o_
  go_wp2_with fail
  refine (TO1.out _ (HG_1.out)).mono ?_
  rintro e b1 ⟨y_, rfl, g_, o_⟩
  obtain ⟨ab1, cb1, rfl⟩ := hX1 _ _ _ _ o_
  have hsb1 : b0.heap.size ≤ b1.heap.size := by have := g_.size; first | exact this | (simp at this; omega)
  have HG_2 : Hid (Old w b1) := Old.trans HG_1.out (g_)
  have A0_2 : Hid (Bk b1 (w.heap.size) #[.int .i64 Np0, .int .i64 Tp0, .int .i64 Ep0, .slice ap0 lp0 cp0] 44) := A0_1.out.old (g_)
  have Rb0_2 : Hid (X0 b1 (s0.heap.size) (b0.heap.size) #[.int .i64 Np0, .int .i64 Tp0, .int .i64 Ep0, .slice ab0 lp0 cb0]) := fX0.old Rb0_1.out (g_) (by first | omega | (simp; done) | (simp; omega))
  clear HG_1 A0_1 Rb0_1
  have Rb1_2 : Hid (X1 b1 (b0.heap.size) (b1.heap.size) (.slice ab1 lp1 cb1)) := (by first | exact o_ | (simp at o_; exact o_))
  clear g_ o_
  go_wp2_with fail
  refine (csp _ _ _ _ _ _ _ Rb0_2.out Rb1_2.out (HG_2.out)).mono ?_
  rintro e ts ⟨q0, rfl, gp, rp⟩
  obtain ⟨as0, cs0, hq⟩ := hSR _ _ _ _ rp
  have hsts : b1.heap.size ≤ ts.heap.size := by have := gp.size; first | exact this | (simp at this; omega)
  subst hq
  clear Rb0_2 Rb1_2
  have HG_3 : Hid (Old w ts) := Old.trans HG_2.out (Old.trans gp ((Old.refl ts)))
  have A0_3 : Hid (Bk ts (w.heap.size) #[.int .i64 Np0, .int .i64 Tp0, .int .i64 Ep0, .slice ap0 lp0 cp0] 44) := A0_2.out.old (Old.trans gp ((Old.refl ts)))
  clear HG_2 A0_2
  have SS_3 : Hid (SR ts (b1.heap.size) (ts.heap.size) (.slice as0 lr0 cs0)) := fSR.old (by first | exact rp | (simp at rp; exact rp)) ((Old.refl ts)) (Nat.le_refl _)
  clear gp rp
  have zA0_0 := A0_3.out.c (i := 0) rfl
  have zA0_1 := A0_3.out.c (i := 1) rfl
  have zA0_2 := A0_3.out.c (i := 2) rfl
  have zA0_3 := A0_3.out.c (i := 3) rfl
  go_wp2_with fail
  refine (TO0.out _ (HG_3.out)).mono ?_
  rintro e x0 ⟨y_, rfl, g_, o_⟩
  obtain ⟨ax0, cx0, rfl⟩ := hX0 _ _ _ _ o_
  clear zA0_0 zA0_1 zA0_2 zA0_3
  have hsx0 : ts.heap.size ≤ x0.heap.size := by have := g_.size; first | exact this | (simp at this; omega)
  have HG_4 : Hid (Old w (x0.alloc (.cells #[.int .i64 Np0, .int .i64 Tp0, .int .i64 Ep0, .slice ax0 lp0 cx0] 47))) := Old.trans HG_3.out (Old.trans g_ ((Old.refl x0).alloc _))
  have A0_4 : Hid (Bk (x0.alloc (.cells #[.int .i64 Np0, .int .i64 Tp0, .int .i64 Ep0, .slice ax0 lp0 cx0] 47)) (w.heap.size) #[.int .i64 Np0, .int .i64 Tp0, .int .i64 Ep0, .slice ap0 lp0 cp0] 44) := A0_3.out.old (Old.trans g_ ((Old.refl x0).alloc _))
  have SS_4 : Hid (SR (x0.alloc (.cells #[.int .i64 Np0, .int .i64 Tp0, .int .i64 Ep0, .slice ax0 lp0 cx0] 47)) (b1.heap.size) (ts.heap.size) (.slice as0 lr0 cs0)) := fSR.old SS_3.out (Old.trans g_ ((Old.refl x0).alloc _)) (by first | omega | (simp; done) | (simp; omega))
  clear HG_3 A0_3 SS_3
  have Bx0_4 : Hid (Bk (x0.alloc (.cells #[.int .i64 Np0, .int .i64 Tp0, .int .i64 Ep0, .slice ax0 lp0 cx0] 47)) (x0.heap.size) #[.int .i64 Np0, .int .i64 Tp0, .int .i64 Ep0, .slice ax0 lp0 cx0] 47) := Bk.new' x0 _ _ rfl
  have Rx0_4 : Hid (X0 (x0.alloc (.cells #[.int .i64 Np0, .int .i64 Tp0, .int .i64 Ep0, .slice ax0 lp0 cx0] 47)) (ts.heap.size) (x0.heap.size) #[.int .i64 Np0, .int .i64 Tp0, .int .i64 Ep0, .slice ax0 lp0 cx0]) := fX0.old (by first | exact o_ | (simp at o_; exact o_)) ((Old.refl x0).alloc _) (Nat.le_refl _)
  clear g_ o_
  go_wp2_with fail
  refine (TO1.out _ (HG_4.out)).mono ?_
  rintro e x1 ⟨y_, rfl, g_, o_⟩
  obtain ⟨ax1, cx1, rfl⟩ := hX1 _ _ _ _ o_
  have hsx1 : x0.heap.size + 1 ≤ x1.heap.size := by have := g_.size; first | exact this | (simp at this; omega)
  have HG_5 : Hid (Old w x1) := Old.trans HG_4.out (g_)
  have A0_5 : Hid (Bk x1 (w.heap.size) #[.int .i64 Np0, .int .i64 Tp0, .int .i64 Ep0, .slice ap0 lp0 cp0] 44) := A0_4.out.old (g_)
  have SS_5 : Hid (SR x1 (b1.heap.size) (ts.heap.size) (.slice as0 lr0 cs0)) := fSR.old SS_4.out (g_) (by first | omega | (simp; done) | (simp; omega))
  have Bx0_5 : Hid (Bk x1 (x0.heap.size) #[.int .i64 Np0, .int .i64 Tp0, .int .i64 Ep0, .slice ax0 lp0 cx0] 47) := Bx0_4.out.old (g_)
  have Rx0_5 : Hid (X0 x1 (ts.heap.size) (x0.heap.size) #[.int .i64 Np0, .int .i64 Tp0, .int .i64 Ep0, .slice ax0 lp0 cx0]) := fX0.old Rx0_4.out (g_) (by first | omega | (simp; done) | (simp; omega))
  clear HG_4 A0_4 SS_4 Bx0_4 Rx0_4
  have Rx1_5 : Hid (X1 x1 (x0.heap.size + 1) (x1.heap.size) (.slice ax1 lp1 cx1)) := (by first | exact o_ | (simp at o_; exact o_))
  clear g_ o_
  have zBx0_0 := Bx0_5.out.c (i := 0) rfl
  have zBx0_1 := Bx0_5.out.c (i := 1) rfl
  have zBx0_2 := Bx0_5.out.c (i := 2) rfl
  have zBx0_3 := Bx0_5.out.c (i := 3) rfl
  go_wp2_with fail
  refine (cim _ _ _ _ _ _ _ Rx0_5.out Rx1_5.out (HG_5.out)).mono ?_
  rintro e p1 ⟨q0, rfl, gp, rp⟩
  obtain ⟨ag0, cg0, hq⟩ := hIR0 _ _ _ _ rp
  have hsp1 : x1.heap.size ≤ p1.heap.size := by have := gp.size; first | exact this | (simp at this; omega)
  subst hq
  clear zBx0_0 zBx0_1 zBx0_2 zBx0_3
  have HG_6 : Hid (Old w p1) := Old.trans HG_5.out (Old.trans gp ((Old.refl p1)))
  have A0_6 : Hid (Bk p1 (w.heap.size) #[.int .i64 Np0, .int .i64 Tp0, .int .i64 Ep0, .slice ap0 lp0 cp0] 44) := A0_5.out.old (Old.trans gp ((Old.refl p1)))
  have SS_6 : Hid (SR p1 (b1.heap.size) (ts.heap.size) (.slice as0 lr0 cs0)) := fSR.old SS_5.out (Old.trans gp ((Old.refl p1))) (by first | omega | (simp; done) | (simp; omega))
  have Bx0_6 : Hid (Bk p1 (x0.heap.size) #[.int .i64 Np0, .int .i64 Tp0, .int .i64 Ep0, .slice ax0 lp0 cx0] 47) := Bx0_5.out.old (Old.trans gp ((Old.refl p1)))
  have Rx0_6 : Hid (X0 p1 (ts.heap.size) (x0.heap.size) #[.int .i64 Np0, .int .i64 Tp0, .int .i64 Ep0, .slice ax0 lp0 cx0]) := fX0.old Rx0_5.out (Old.trans gp ((Old.refl p1))) (by first | omega | (simp; done) | (simp; omega))
  have Rx1_6 : Hid (X1 p1 (x0.heap.size + 1) (x1.heap.size) (.slice ax1 lp1 cx1)) := fX1.old Rx1_5.out (Old.trans gp ((Old.refl p1))) (by first | omega | (simp; done) | (simp; omega))
  clear HG_5 A0_5 SS_5 Bx0_5 Rx0_5 Rx1_5
  have RG_6 : Hid (IR0 p1 (x1.heap.size) (p1.heap.size) (.slice ag0 lr0 cg0)) := fIR0.old (by first | exact rp | (simp at rp; exact rp)) ((Old.refl p1)) (Nat.le_refl _)
  clear gp rp
  go_wp2_with fail
  refine (cer0 _ _ _ _ _ _ _ RG_6.out SS_6.out).mono ?_
  rintro e f0 ⟨rfl, g_⟩
  have hsf0 : p1.heap.size + 0 ≤ f0.heap.size := by have := g_.size; first | omega | (simp at this; omega)
  have HG_7 : Hid (Old w f0) := Old.trans HG_6.out (g_)
  have A0_7 : Hid (Bk f0 (w.heap.size) #[.int .i64 Np0, .int .i64 Tp0, .int .i64 Ep0, .slice ap0 lp0 cp0] 44) := A0_6.out.old (g_)
  have SS_7 : Hid (SR f0 (b1.heap.size) (ts.heap.size) (.slice as0 lr0 cs0)) := fSR.old SS_6.out (g_) (by first | omega | (simp; done) | (simp; omega))
  have Bx0_7 : Hid (Bk f0 (x0.heap.size) #[.int .i64 Np0, .int .i64 Tp0, .int .i64 Ep0, .slice ax0 lp0 cx0] 47) := Bx0_6.out.old (g_)
  have Rx0_7 : Hid (X0 f0 (ts.heap.size) (x0.heap.size) #[.int .i64 Np0, .int .i64 Tp0, .int .i64 Ep0, .slice ax0 lp0 cx0]) := fX0.old Rx0_6.out (g_) (by first | omega | (simp; done) | (simp; omega))
  have Rx1_7 : Hid (X1 f0 (x0.heap.size + 1) (x1.heap.size) (.slice ax1 lp1 cx1)) := fX1.old Rx1_6.out (g_) (by first | omega | (simp; done) | (simp; omega))
  have RG_7 : Hid (IR0 f0 (x1.heap.size) (p1.heap.size) (.slice ag0 lr0 cg0)) := fIR0.old RG_6.out (g_) (by first | omega | (simp; done) | (simp; omega))
  clear HG_6 A0_6 SS_6 Bx0_6 Rx0_6 Rx1_6 RG_6
  clear g_
  have zBx0_0 := Bx0_7.out.c (i := 0) rfl
  have zBx0_1 := Bx0_7.out.c (i := 1) rfl
  have zBx0_2 := Bx0_7.out.c (i := 2) rfl
  have zBx0_3 := Bx0_7.out.c (i := 3) rfl
  have zA0_0 := A0_7.out.c (i := 0) rfl
  have zA0_1 := A0_7.out.c (i := 1) rfl
  have zA0_2 := A0_7.out.c (i := 2) rfl
  have zA0_3 := A0_7.out.c (i := 3) rfl
  have HAS : Hid (∀ W', Old f0 W' → (W'.cell? ⟨x0.heap.size, 0, none⟩ = some (.int .i64 Np0) ∧ W'.cell? ⟨x0.heap.size, 1, none⟩ = some (.int .i64 Tp0) ∧ W'.cell? ⟨x0.heap.size, 2, none⟩ = some (.int .i64 Ep0) ∧ W'.cell? ⟨x0.heap.size, 3, none⟩ = some (.slice ax0 lp0 cx0) ∧ W'.cell? ⟨w.heap.size, 0, none⟩ = some (.int .i64 Np0) ∧ W'.cell? ⟨w.heap.size, 1, none⟩ = some (.int .i64 Tp0) ∧ W'.cell? ⟨w.heap.size, 2, none⟩ = some (.int .i64 Ep0) ∧ W'.cell? ⟨w.heap.size, 3, none⟩ = some (.slice ap0 lp0 cp0))) := fun W' g => ⟨(Bx0_7.out.old g).c (i := 0) rfl, (Bx0_7.out.old g).c (i := 1) rfl, (Bx0_7.out.old g).c (i := 2) rfl, (Bx0_7.out.old g).c (i := 3) rfl, (A0_7.out.old g).c (i := 0) rfl, (A0_7.out.old g).c (i := 1) rfl, (A0_7.out.old g).c (i := 2) rfl, (A0_7.out.old g).c (i := 3) rfl⟩
  go_wp2_with fail
  go_region_held3 (fun W' => W'.cell? ⟨x0.heap.size, 0, none⟩ = some (.int .i64 Np0) ∧ W'.cell? ⟨x0.heap.size, 1, none⟩ = some (.int .i64 Tp0) ∧ W'.cell? ⟨x0.heap.size, 2, none⟩ = some (.int .i64 Ep0) ∧ W'.cell? ⟨x0.heap.size, 3, none⟩ = some (.slice ax0 lp0 cx0) ∧ W'.cell? ⟨w.heap.size, 0, none⟩ = some (.int .i64 Np0) ∧ W'.cell? ⟨w.heap.size, 1, none⟩ = some (.int .i64 Tp0) ∧ W'.cell? ⟨w.heap.size, 2, none⟩ = some (.int .i64 Ep0) ∧ W'.cell? ⟨w.heap.size, 3, none⟩ = some (.slice ap0 lp0 cp0)) (first | with_reducible exact HAS.out _ GE.out | with_reducible exact HAS.out _ GT.out | with_reducible exact HAS.out _ (Below.drew (Old.refl f0)) | with_reducible exact HAS.out _ (Old.refl f0)) (first
    | (go_at_call 31; refine (TO0.out _ (Below.drew HG_7.out)).mono ?_; rintro e wt ⟨y_, rfl, gt, ot⟩; obtain ⟨at_, ct_, rfl⟩ := hX0 _ _ _ _ ot; have GT : Hid (Old f0 wt) := Old.trans (Below.drew (Old.refl f0)) gt; have RT : Hid (X0 wt _ _ #[.int .i64 Np0, .int .i64 Tp0, .int .i64 Ep0, .slice at_ lp0 ct_]) := ot; clear gt ot)
    | (go_at_call 33; refine (ceq0 _ _ _ _ _ _ _ (fX0.old Rx0_7.out GT.out (by omega)) RT.out).mono ?_; rintro e v0 ⟨rfl, ge⟩; have GE : Hid (Old f0 v0) := Old.trans GT.out ge; clear ge)
    | fail)
  clear zBx0_0 zBx0_1 zBx0_2 zBx0_3 zA0_0 zA0_1 zA0_2 zA0_3
  have hsv0 := GE.out.size
  have HG_8 : Hid (Old w v0) := Old.trans HG_7.out (GE.out)
  have A0_8 : Hid (Bk v0 (w.heap.size) #[.int .i64 Np0, .int .i64 Tp0, .int .i64 Ep0, .slice ap0 lp0 cp0] 44) := A0_7.out.old (GE.out)
  have SS_8 : Hid (SR v0 (b1.heap.size) (ts.heap.size) (.slice as0 lr0 cs0)) := fSR.old SS_7.out (GE.out) (by first | omega | (simp; done) | (simp; omega))
  have Bx0_8 : Hid (Bk v0 (x0.heap.size) #[.int .i64 Np0, .int .i64 Tp0, .int .i64 Ep0, .slice ax0 lp0 cx0] 47) := Bx0_7.out.old (GE.out)
  have Rx0_8 : Hid (X0 v0 (ts.heap.size) (x0.heap.size) #[.int .i64 Np0, .int .i64 Tp0, .int .i64 Ep0, .slice ax0 lp0 cx0]) := fX0.old Rx0_7.out (GE.out) (by first | omega | (simp; done) | (simp; omega))
  have Rx1_8 : Hid (X1 v0 (x0.heap.size + 1) (x1.heap.size) (.slice ax1 lp1 cx1)) := fX1.old Rx1_7.out (GE.out) (by first | omega | (simp; done) | (simp; omega))
  have RG_8 : Hid (IR0 v0 (x1.heap.size) (p1.heap.size) (.slice ag0 lr0 cg0)) := fIR0.old RG_7.out (GE.out) (by first | omega | (simp; done) | (simp; omega))
  clear HG_7 A0_7 SS_7 Bx0_7 Rx0_7 Rx1_7 RG_7
  clear GE GT RT HAS
  go_wp2_with fail
  refine (TO1.out _ (HG_8.out)).mono ?_
  rintro e wt ⟨y_, rfl, gt, ot⟩
  obtain ⟨at_, ct_, rfl⟩ := hX1 _ _ _ _ ot
  have GT : Hid (Old v0 wt) := gt
  have RT : Hid (X1 wt _ _ (.slice at_ lp1 ct_)) := ot
  clear gt ot
  go_wp2_with fail
  refine (ceq1 _ _ _ _ _ _ _ (fX1.old Rx1_8.out GT.out (by omega)) RT.out).mono ?_
  rintro e v1 ⟨rfl, ge⟩
  have GE : Hid (Old v0 v1) := Old.trans GT.out ge
  clear ge
  have hsv1 := GE.out.size
  have HG_9 : Hid (Old w v1) := Old.trans HG_8.out (GE.out)
  have A0_9 : Hid (Bk v1 (w.heap.size) #[.int .i64 Np0, .int .i64 Tp0, .int .i64 Ep0, .slice ap0 lp0 cp0] 44) := A0_8.out.old (GE.out)
  have SS_9 : Hid (SR v1 (b1.heap.size) (ts.heap.size) (.slice as0 lr0 cs0)) := fSR.old SS_8.out (GE.out) (by first | omega | (simp; done) | (simp; omega))
  have Bx0_9 : Hid (Bk v1 (x0.heap.size) #[.int .i64 Np0, .int .i64 Tp0, .int .i64 Ep0, .slice ax0 lp0 cx0] 47) := Bx0_8.out.old (GE.out)
  have Rx0_9 : Hid (X0 v1 (ts.heap.size) (x0.heap.size) #[.int .i64 Np0, .int .i64 Tp0, .int .i64 Ep0, .slice ax0 lp0 cx0]) := fX0.old Rx0_8.out (GE.out) (by first | omega | (simp; done) | (simp; omega))
  have Rx1_9 : Hid (X1 v1 (x0.heap.size + 1) (x1.heap.size) (.slice ax1 lp1 cx1)) := fX1.old Rx1_8.out (GE.out) (by first | omega | (simp; done) | (simp; omega))
  have RG_9 : Hid (IR0 v1 (x1.heap.size) (p1.heap.size) (.slice ag0 lr0 cg0)) := fIR0.old RG_8.out (GE.out) (by first | omega | (simp; done) | (simp; omega))
  clear HG_8 A0_8 SS_8 Bx0_8 Rx0_8 Rx1_8 RG_8
  clear GE GT RT
  have zBx0_0 := Bx0_9.out.c (i := 0) rfl
  have zBx0_1 := Bx0_9.out.c (i := 1) rfl
  have zBx0_2 := Bx0_9.out.c (i := 2) rfl
  have zBx0_3 := Bx0_9.out.c (i := 3) rfl
  go_wp2_with fail
  refine (cmk0 _ _ _ _ Rx0_9.out).mono ?_
  rintro e y0 ⟨rfl, gm⟩
  clear zBx0_0 zBx0_1 zBx0_2 zBx0_3
  have hsy0 := gm.size
  have HG_10 : Hid (Old w y0) := Old.chg HG_9.out (gm) (by omega)
  have A0_10 : Hid (Bk y0 (w.heap.size) #[.int .i64 Np0, .int .i64 Tp0, .int .i64 Ep0, .slice ap0 lp0 cp0] 44) := A0_9.out.chg (gm) (by omega)
  have SS_10 : Hid (SR y0 (b1.heap.size) (ts.heap.size) (.slice as0 lr0 cs0)) := fSR.chg SS_9.out (gm) (by first | omega | (simp; done) | (simp; omega)) (by omega)
  have Bx0_10 : Hid (Bk y0 (x0.heap.size) #[.int .i64 Np0, .int .i64 Tp0, .int .i64 Ep0, .slice ax0 lp0 cx0] 47) := Bx0_9.out.chg (gm) (by omega)
  have Rx1_10 : Hid (X1 y0 (x0.heap.size + 1) (x1.heap.size) (.slice ax1 lp1 cx1)) := fX1.chg Rx1_9.out (gm) (by first | omega | (simp; done) | (simp; omega)) (by omega)
  have RG_10 : Hid (IR0 y0 (x1.heap.size) (p1.heap.size) (.slice ag0 lr0 cg0)) := fIR0.chg RG_9.out (gm) (by first | omega | (simp; done) | (simp; omega)) (by omega)
  clear HG_9 A0_9 SS_9 Bx0_9 Rx0_9 Rx1_9 RG_9
  clear gm
  go_wp2_with fail
  refine (cmk1 _ _ _ _ Rx1_10.out).mono ?_
  rintro e y1 ⟨rfl, gm⟩
  have hsy1 := gm.size
  have HG_11 : Hid (Old w y1) := Old.chg HG_10.out (gm) (by omega)
  have A0_11 : Hid (Bk y1 (w.heap.size) #[.int .i64 Np0, .int .i64 Tp0, .int .i64 Ep0, .slice ap0 lp0 cp0] 44) := A0_10.out.chg (gm) (by omega)
  have SS_11 : Hid (SR y1 (b1.heap.size) (ts.heap.size) (.slice as0 lr0 cs0)) := fSR.chg SS_10.out (gm) (by first | omega | (simp; done) | (simp; omega)) (by omega)
  have Bx0_11 : Hid (Bk y1 (x0.heap.size) #[.int .i64 Np0, .int .i64 Tp0, .int .i64 Ep0, .slice ax0 lp0 cx0] 47) := Bx0_10.out.chg (gm) (by omega)
  have RG_11 : Hid (IR0 y1 (x1.heap.size) (p1.heap.size) (.slice ag0 lr0 cg0)) := fIR0.chg RG_10.out (gm) (by first | omega | (simp; done) | (simp; omega)) (by omega)
  clear HG_10 A0_10 SS_10 Bx0_10 Rx1_10 RG_10
  clear gm
  have dk : decide (k1 < 0) = false := decide_eq_false (by omega)
  go_wp2_with fail
  refine (cer0 _ _ _ _ _ _ _ RG_11.out SS_11.out).mono ?_
  rintro e h0 ⟨rfl, g_⟩
  have hsh0 := g_.size
  have HG_12 : Hid (Old w h0) := Old.trans HG_11.out (g_)
  have A0_12 : Hid (Bk h0 (w.heap.size) #[.int .i64 Np0, .int .i64 Tp0, .int .i64 Ep0, .slice ap0 lp0 cp0] 44) := A0_11.out.old (g_)
  have SS_12 : Hid (SR h0 (b1.heap.size) (ts.heap.size) (.slice as0 lr0 cs0)) := fSR.old SS_11.out (g_) (by first | omega | (simp; done) | (simp; omega))
  have Bx0_12 : Hid (Bk h0 (x0.heap.size) #[.int .i64 Np0, .int .i64 Tp0, .int .i64 Ep0, .slice ax0 lp0 cx0] 47) := Bx0_11.out.old (g_)
  have RG_12 : Hid (IR0 h0 (x1.heap.size) (p1.heap.size) (.slice ag0 lr0 cg0)) := fIR0.old RG_11.out (g_) (by first | omega | (simp; done) | (simp; omega))
  clear HG_11 A0_11 SS_11 Bx0_11 RG_11
  clear g_
  go_wp2_with fail
  refine (cmr0 _ _ _ _ RG_12.out).mono ?_
  rintro e i0 ⟨rfl, gm, rm⟩
  have hsi0 := gm.size
  have HG_13 : Hid (Old w i0) := Old.chg HG_12.out (gm) (by omega)
  have A0_13 : Hid (Bk i0 (w.heap.size) #[.int .i64 Np0, .int .i64 Tp0, .int .i64 Ep0, .slice ap0 lp0 cp0] 44) := A0_12.out.chg (gm) (by omega)
  have SS_13 : Hid (SR i0 (b1.heap.size) (ts.heap.size) (.slice as0 lr0 cs0)) := fSR.chg SS_12.out (gm) (by first | omega | (simp; done) | (simp; omega)) (by omega)
  have Bx0_13 : Hid (Bk i0 (x0.heap.size) #[.int .i64 Np0, .int .i64 Tp0, .int .i64 Ep0, .slice ax0 lp0 cx0] 47) := Bx0_12.out.chg (gm) (by omega)
  clear HG_12 A0_12 SS_12 Bx0_12 RG_12
  have RG_13 : Hid (IR1 i0 (x1.heap.size) (p1.heap.size) (.slice ag0 lr0 cg0)) := rm
  clear gm rm
  have dm0 : decide (m0 < 0) = false := decide_eq_false (by omega)
  have dmm : (m0 != m0) = false := by simp
  go_wp2_with fail
  refine (chr0 _ _ _ _ RG_13.out).mono ?_
  rintro e j0 ⟨rfl, g_⟩
  have hsj0 := g_.size
  have HG_14 : Hid (Old w j0) := Old.trans HG_13.out (g_)
  have A0_14 : Hid (Bk j0 (w.heap.size) #[.int .i64 Np0, .int .i64 Tp0, .int .i64 Ep0, .slice ap0 lp0 cp0] 44) := A0_13.out.old (g_)
  have SS_14 : Hid (SR j0 (b1.heap.size) (ts.heap.size) (.slice as0 lr0 cs0)) := fSR.old SS_13.out (g_) (by first | omega | (simp; done) | (simp; omega))
  have Bx0_14 : Hid (Bk j0 (x0.heap.size) #[.int .i64 Np0, .int .i64 Tp0, .int .i64 Ep0, .slice ax0 lp0 cx0] 47) := Bx0_13.out.old (g_)
  have RG_14 : Hid (IR1 j0 (x1.heap.size) (p1.heap.size) (.slice ag0 lr0 cg0)) := fIR1.old RG_13.out (g_) (by first | omega | (simp; done) | (simp; omega))
  clear HG_13 A0_13 SS_13 Bx0_13 RG_13
  clear g_
  have zA0_0 := A0_14.out.c (i := 0) rfl
  have zA0_1 := A0_14.out.c (i := 1) rfl
  have zA0_2 := A0_14.out.c (i := 2) rfl
  have zA0_3 := A0_14.out.c (i := 3) rfl
  go_wp2_with fail
  refine (TO0.out _ (HG_14.out)).mono ?_
  rintro e d0 ⟨y_, rfl, g_, o_⟩
  obtain ⟨ad0, cd0, rfl⟩ := hX0 _ _ _ _ o_
  clear zA0_0 zA0_1 zA0_2 zA0_3
  have hsd0 : j0.heap.size ≤ d0.heap.size := by have := g_.size; first | exact this | (simp at this; omega)
  have HG_15 : Hid (Old w d0) := Old.trans HG_14.out (g_)
  have A0_15 : Hid (Bk d0 (w.heap.size) #[.int .i64 Np0, .int .i64 Tp0, .int .i64 Ep0, .slice ap0 lp0 cp0] 44) := A0_14.out.old (g_)
  have SS_15 : Hid (SR d0 (b1.heap.size) (ts.heap.size) (.slice as0 lr0 cs0)) := fSR.old SS_14.out (g_) (by first | omega | (simp; done) | (simp; omega))
  have Bx0_15 : Hid (Bk d0 (x0.heap.size) #[.int .i64 Np0, .int .i64 Tp0, .int .i64 Ep0, .slice ax0 lp0 cx0] 47) := Bx0_14.out.old (g_)
  have RG_15 : Hid (IR1 d0 (x1.heap.size) (p1.heap.size) (.slice ag0 lr0 cg0)) := fIR1.old RG_14.out (g_) (by first | omega | (simp; done) | (simp; omega))
  clear HG_14 A0_14 SS_14 Bx0_14 RG_14
  have Rd0_15 : Hid (X0 d0 (j0.heap.size) (d0.heap.size) #[.int .i64 Np0, .int .i64 Tp0, .int .i64 Ep0, .slice ad0 lp0 cd0]) := (by first | exact o_ | (simp at o_; exact o_))
  clear g_ o_
  go_wp2_with fail
  refine (TO1.out _ (HG_15.out)).mono ?_
  rintro e d1 ⟨y_, rfl, g_, o_⟩
  obtain ⟨ad1, cd1, rfl⟩ := hX1 _ _ _ _ o_
  have hsd1 : d0.heap.size ≤ d1.heap.size := by have := g_.size; first | exact this | (simp at this; omega)
  have HG_16 : Hid (Old w d1) := Old.trans HG_15.out (g_)
  have A0_16 : Hid (Bk d1 (w.heap.size) #[.int .i64 Np0, .int .i64 Tp0, .int .i64 Ep0, .slice ap0 lp0 cp0] 44) := A0_15.out.old (g_)
  have SS_16 : Hid (SR d1 (b1.heap.size) (ts.heap.size) (.slice as0 lr0 cs0)) := fSR.old SS_15.out (g_) (by first | omega | (simp; done) | (simp; omega))
  have Bx0_16 : Hid (Bk d1 (x0.heap.size) #[.int .i64 Np0, .int .i64 Tp0, .int .i64 Ep0, .slice ax0 lp0 cx0] 47) := Bx0_15.out.old (g_)
  have RG_16 : Hid (IR1 d1 (x1.heap.size) (p1.heap.size) (.slice ag0 lr0 cg0)) := fIR1.old RG_15.out (g_) (by first | omega | (simp; done) | (simp; omega))
  have Rd0_16 : Hid (X0 d1 (j0.heap.size) (d0.heap.size) #[.int .i64 Np0, .int .i64 Tp0, .int .i64 Ep0, .slice ad0 lp0 cd0]) := fX0.old Rd0_15.out (g_) (by first | omega | (simp; done) | (simp; omega))
  clear HG_15 A0_15 SS_15 Bx0_15 RG_15 Rd0_15
  have Rd1_16 : Hid (X1 d1 (d0.heap.size) (d1.heap.size) (.slice ad1 lp1 cd1)) := (by first | exact o_ | (simp at o_; exact o_))
  clear g_ o_
  go_wp2_with fail
  refine (cim _ _ _ _ _ _ _ Rd0_16.out Rd1_16.out (HG_16.out)).mono ?_
  rintro e ts2 ⟨q0, rfl, gp, rp⟩
  obtain ⟨at0, ct0, hq⟩ := hIR0 _ _ _ _ rp
  have hsts2 : d1.heap.size ≤ ts2.heap.size := by have := gp.size; first | exact this | (simp at this; omega)
  subst hq
  clear Rd0_16 Rd1_16
  have HG_17 : Hid (Old w ts2) := Old.trans HG_16.out (Old.trans gp ((Old.refl ts2)))
  have A0_17 : Hid (Bk ts2 (w.heap.size) #[.int .i64 Np0, .int .i64 Tp0, .int .i64 Ep0, .slice ap0 lp0 cp0] 44) := A0_16.out.old (Old.trans gp ((Old.refl ts2)))
  have SS_17 : Hid (SR ts2 (b1.heap.size) (ts.heap.size) (.slice as0 lr0 cs0)) := fSR.old SS_16.out (Old.trans gp ((Old.refl ts2))) (by first | omega | (simp; done) | (simp; omega))
  have Bx0_17 : Hid (Bk ts2 (x0.heap.size) #[.int .i64 Np0, .int .i64 Tp0, .int .i64 Ep0, .slice ax0 lp0 cx0] 47) := Bx0_16.out.old (Old.trans gp ((Old.refl ts2)))
  have RG_17 : Hid (IR1 ts2 (x1.heap.size) (p1.heap.size) (.slice ag0 lr0 cg0)) := fIR1.old RG_16.out (Old.trans gp ((Old.refl ts2))) (by first | omega | (simp; done) | (simp; omega))
  clear HG_16 A0_16 SS_16 Bx0_16 RG_16
  have HH_17 : Hid (IR0 ts2 (d1.heap.size) (ts2.heap.size) (.slice at0 lr0 ct0)) := fIR0.old (by first | exact rp | (simp at rp; exact rp)) ((Old.refl ts2)) (Nat.le_refl _)
  clear gp rp
  go_wp2_with fail
  refine (cer0 _ _ _ _ _ _ _ HH_17.out SS_17.out).mono ?_
  rintro e o0 ⟨rfl, g_⟩
  have hso0 := g_.size
  have HG_18 : Hid (Old w o0) := Old.trans HG_17.out (g_)
  have A0_18 : Hid (Bk o0 (w.heap.size) #[.int .i64 Np0, .int .i64 Tp0, .int .i64 Ep0, .slice ap0 lp0 cp0] 44) := A0_17.out.old (g_)
  have SS_18 : Hid (SR o0 (b1.heap.size) (ts.heap.size) (.slice as0 lr0 cs0)) := fSR.old SS_17.out (g_) (by first | omega | (simp; done) | (simp; omega))
  have Bx0_18 : Hid (Bk o0 (x0.heap.size) #[.int .i64 Np0, .int .i64 Tp0, .int .i64 Ep0, .slice ax0 lp0 cx0] 47) := Bx0_17.out.old (g_)
  have RG_18 : Hid (IR1 o0 (x1.heap.size) (p1.heap.size) (.slice ag0 lr0 cg0)) := fIR1.old RG_17.out (g_) (by first | omega | (simp; done) | (simp; omega))
  have HH_18 : Hid (IR0 o0 (d1.heap.size) (ts2.heap.size) (.slice at0 lr0 ct0)) := fIR0.old HH_17.out (g_) (by first | omega | (simp; done) | (simp; omega))
  clear HG_17 A0_17 SS_17 Bx0_17 RG_17 HH_17
  clear g_
  go_wp2_with fail
  refine (chr0 _ _ _ _ RG_18.out).mono ?_
  rintro e n0 ⟨rfl, g_⟩
  have hsn0 := g_.size
  have HG_19 : Hid (Old w n0) := Old.trans HG_18.out (g_)
  have A0_19 : Hid (Bk n0 (w.heap.size) #[.int .i64 Np0, .int .i64 Tp0, .int .i64 Ep0, .slice ap0 lp0 cp0] 44) := A0_18.out.old (g_)
  have SS_19 : Hid (SR n0 (b1.heap.size) (ts.heap.size) (.slice as0 lr0 cs0)) := fSR.old SS_18.out (g_) (by first | omega | (simp; done) | (simp; omega))
  have Bx0_19 : Hid (Bk n0 (x0.heap.size) #[.int .i64 Np0, .int .i64 Tp0, .int .i64 Ep0, .slice ax0 lp0 cx0] 47) := Bx0_18.out.old (g_)
  have RG_19 : Hid (IR1 n0 (x1.heap.size) (p1.heap.size) (.slice ag0 lr0 cg0)) := fIR1.old RG_18.out (g_) (by first | omega | (simp; done) | (simp; omega))
  have HH_19 : Hid (IR0 n0 (d1.heap.size) (ts2.heap.size) (.slice at0 lr0 ct0)) := fIR0.old HH_18.out (g_) (by first | omega | (simp; done) | (simp; omega))
  clear HG_18 A0_18 SS_18 Bx0_18 RG_18 HH_18
  clear g_
  go_wp2_with fail
  go_ret
  exact ⟨rfl, HG_19.out⟩
end Go.Proofs.YtinldhoimnbkhaaDoor
/- Proved: whole numbers as a law carries them: what its functions on them do, by blocks of memory from one number up to another. -/
namespace Go.Proofs.YtinldhoimnbkhaaDoor
open Go.ChangeShapes Go.WideShapes Go.ChangeAt Go.RowKit
set_option linter.unusedVariables false
set_option linter.unusedSimpArgs false
theorem OwI.mark {W w' : World} {lo hi : Nat} {v : Value} {xs ys : List Int} (h : OwI xs W lo hi v) (g : W.grownBy w' v.ownBlock) (o : Own w' lo v ys) : Chg W w' lo hi ∧ OwI ys w' lo hi v :=
  ⟨chg_by g (fun b hb => ⟨(h.1.lt b hb).1, h.2.2 b hb⟩), o, Nat.le_trans h.2.1 g.size, h.2.2⟩
end Go.Proofs.YtinldhoimnbkhaaDoor
/- Proved: plain arithmetic for the proofs of this seat (powers, inverses by Euclid's way, Barrett's, Montgomery's and Shoup's products); no program in sight. -/
namespace Go.Proofs.YtinldhoimnbkhaaDoor.M1
theorem tm (v m : Int) (hm : 2 ≤ m) : (if Int.tmod v m < 0 then Int.tmod v m + m else Int.tmod v m) = v % m := by
  by_cases hv0 : 0 ≤ v
  · rw [Int.tmod_eq_emod_of_nonneg hv0]
    have := Int.emod_nonneg v (show m ≠ 0 by omega)
    rw [if_neg (by omega)]
  · have e : Int.tmod v m = - ((-v) % m) := by
      rw [← Int.tmod_eq_emod_of_nonneg (by omega), Int.neg_tmod, Int.neg_neg]
    have r0 := Int.emod_nonneg (-v) (show m ≠ 0 by omega)
    have r1 := Int.emod_lt_of_pos (-v) (b := m) (by omega)
    have k : (-v) % m = if m ∣ v then 0 else m - v % m := by
      rw [Int.neg_emod]
      have : (m.natAbs : Int) = m := by omega
      rw [this]
    by_cases hd : m ∣ v
    · rw [if_pos hd] at k
      have := Int.emod_eq_zero_of_dvd hd
      rw [e, k, this]; simp
    · rw [if_neg hd] at k
      have hd' : v % m ≠ 0 := fun h => hd (Int.dvd_of_emod_eq_zero h)
      have s0 := Int.emod_nonneg v (show m ≠ 0 by omega)
      have s1 := Int.emod_lt_of_pos v (b := m) (by omega)
      rw [if_pos (by omega)]; omega
end Go.Proofs.YtinldhoimnbkhaaDoor.M1
/- Proved: params as a law carries them: what its functions on them do. -/
namespace Go.Proofs.YtinldhoimnbkhaaDoor
open Go.ChangeShapes Go.WideShapes Go.ChangeAt Go.RowKit
set_option linter.unusedVariables false
set_option linter.unusedSimpArgs false
set_option maxHeartbeats 1000000 in
theorem markParams_any (N T E : Int) (xs : List Int) (v : Value) (k : Int) (base : Nat) (w : World) (h : Own w base v xs) (hl : xs.length ≤ 1073741824) (hk : 0 ≤ k) (hk' : k ≤ 1073741824) :
    Calls Tryd.prog 38 #[.agg #[.int .i64 N, .int .i64 T, .int .i64 E, v], .int .i64 k] w fun e w' => e = .returned (.int .i64 (k + xs.length)) ∧ w.grownBy w' v.ownBlock ∧ Own w' base v (marks k xs.length) := by
  have HR : Hid (Own w base v xs) := h
  obtain ⟨a0, cap0, rfl⟩ := (Own.row h).slice
  clear h
  go_enter Tryd.func38, Tryd.ntmps38
  go_wp2_with fail
  refine (markInts_any xs _ k base _ (HR.out.alloc _) hl hk hk').mono ?_
  rintro e w1 ⟨rfl, g1, o1⟩
  have HG : Hid (w.grownBy w1 (Value.slice a0 xs.length cap0).ownBlock) := ⟨g1.os, g1.tape, g1.output, Nat.le_trans (by simp) g1.size, fun p hp hne => (g1.block p (by simp; omega) hne).trans (heap_alloc_old _ _ hp)⟩
  have HO : Hid (Own w1 base (.slice a0 xs.length cap0) (marks k xs.length)) := o1
  clear g1 o1
  go_wp2_with fail
  go_ret
  exact ⟨rfl, HG.out, HO.out⟩
theorem kp_mark (n t d : Int) (xs : List Int) (k : Int) (W : World) (lo hi : Nat) (g : Array Value) (h : XP n t d xs W lo hi g) (hl : xs.length ≤ 1048576) (hk : 0 ≤ k) (hk' : k ≤ 1073741824) :
    Calls Tryd.prog 38 #[.agg g, .int .i64 k] W fun e w' => e = .returned (.int .i64 (k + xs.length)) ∧ Chg W w' lo hi := by
  obtain ⟨a, c, rfl, o, f⟩ := h
  refine (markParams_any n t d xs _ k lo W o.1 (by omega) hk hk').mono ?_
  rintro e w' ⟨rfl, gr, ow⟩
  exact ⟨rfl, (o.mark gr ow).1⟩
end Go.Proofs.YtinldhoimnbkhaaDoor
/- Proved: rows of numbers as a law carries them: copies, comparisons, marks; no other function of the program. -/
namespace Go.Proofs.YtinldhoimnbkhaaDoor
open Go.ChangeShapes Go.WideShapes Go.ChangeAt Go.RowKit
set_option linter.unusedVariables false
set_option linter.unusedSimpArgs false
/-- a row's copy -/
def XI (xs : List Int) (W : World) (lo hi : Nat) (v : Value) : Prop := ∃ a c, v = .slice a xs.length c ∧ OwI xs W lo hi (.slice a xs.length c) ∧ xs.length ≤ c
theorem far_XI (xs : List Int) : Far (XI xs) := fun W W' lo hi v h hf hs => by
  obtain ⟨a, c, q, o, f⟩ := h
  exact ⟨a, c, q, far_OwI xs W W' lo hi _ o hf hs, f⟩
theorem shape_XI {xs : List Int} (W : World) (lo hi : Nat) (v : Value) (h : XI xs W lo hi v) : ∃ a c, v = .slice a xs.length c := by
  obtain ⟨a, c, q, o, f⟩ := h
  exact ⟨a, c, q⟩
theorem ki_to (xs : List Int) (v : Value) (W : World) (h : Row W v xs) (hl : xs.length ≤ 1048576) :
    Calls Tryd.prog 35 #[v] W fun e w' => ∃ g, e = .returned g ∧ Old W w' ∧ XI xs w' W.heap.size w'.heap.size g := by
  refine (toInts_any xs v W h hl).mono ?_
  rintro e w' ⟨rfl, g, o⟩
  exact ⟨_, rfl, g, _, _, rfl, OwI.of o, Nat.le_refl _⟩
theorem ki_eq (xs : List Int) (W : World) (lo hi : Nat) (g : Value) (lo' hi' : Nat) (g' : Value) (h : XI xs W lo hi g) (h' : XI xs W lo' hi' g') (hl : xs.length ≤ 1073741824) :
    Calls Tryd.prog 37 #[g, g'] W fun e w' => e = .returned (.bool true) ∧ Old W w' := by
  obtain ⟨a, c, rfl, o, f⟩ := h
  obtain ⟨a', c', rfl, o', f'⟩ := h'
  exact eqInts_yes xs _ _ W o.row o'.row hl
theorem ki_mark (xs : List Int) (k : Int) (W : World) (lo hi : Nat) (g : Value) (h : XI xs W lo hi g) (hl : xs.length ≤ 1048576) (hk : 0 ≤ k) (hk' : k ≤ 1073741824) :
    Calls Tryd.prog 39 #[g, .int .i64 k] W fun e w' => e = .returned (.int .i64 (k + xs.length)) ∧ Chg W w' lo hi := by
  obtain ⟨a, c, rfl, o, f⟩ := h
  refine (markInts_any xs _ k lo W o.1 (by omega) hk hk').mono ?_
  rintro e w' ⟨rfl, gr, ow⟩
  exact ⟨rfl, (o.mark gr ow).1⟩
/-- a row as a result: owned; nothing is said of its room -/
def YI (xs : List Int) (W : World) (lo hi : Nat) (v : Value) : Prop := ∃ a c, v = .slice a xs.length c ∧ OwI xs W lo hi (.slice a xs.length c)
theorem far_YI (xs : List Int) : Far (YI xs) := fun W W' lo hi v h hf hs => by
  obtain ⟨a, c, q, o⟩ := h
  exact ⟨a, c, q, far_OwI xs W W' lo hi _ o hf hs⟩
theorem shape_YI {xs : List Int} (W : World) (lo hi : Nat) (v : Value) (h : YI xs W lo hi v) : ∃ a c, v = .slice a xs.length c := by
  obtain ⟨a, c, q, o⟩ := h
  exact ⟨a, c, q⟩
theorem yi_of {xs : List Int} {W w' : World} {v : Value} (o : Own w' W.heap.size v xs) : YI xs w' W.heap.size w'.heap.size v := by
  obtain ⟨a, c, rfl⟩ := (Own.row o).slice
  exact ⟨a, c, rfl, OwI.of o⟩
theorem yi_eq (xs : List Int) (W : World) (lo hi : Nat) (g : Value) (lo' hi' : Nat) (g' : Value) (h : YI xs W lo hi g) (h' : YI xs W lo' hi' g') (hl : xs.length ≤ 1073741824) :
    Calls Tryd.prog 37 #[g, g'] W fun e w' => e = .returned (.bool true) ∧ Old W w' := by
  obtain ⟨a, c, rfl, o⟩ := h
  obtain ⟨a', c', rfl, o'⟩ := h'
  exact eqInts_yes xs _ _ W o.row o'.row hl
/-- a row of marks of this length -/
def YM (k : Int) (n : Nat) (W : World) (lo hi : Nat) (v : Value) : Prop := ∃ a c, v = .slice a n c ∧ OwI (marks k n) W lo hi (.slice a n c)
theorem far_YM (k : Int) (n : Nat) : Far (YM k n) := fun W W' lo hi v h hf hs => by
  obtain ⟨a, c, q, o⟩ := h
  exact ⟨a, c, q, far_OwI _ W W' lo hi _ o hf hs⟩
theorem shape_YM {k : Int} {n : Nat} (W : World) (lo hi : Nat) (v : Value) (h : YM k n W lo hi v) : ∃ a c, v = .slice a n c := by
  obtain ⟨a, c, q, o⟩ := h
  exact ⟨a, c, q⟩
theorem yi_mark (xs : List Int) (k : Int) (W : World) (lo hi : Nat) (g : Value) (h : YI xs W lo hi g) (hl : xs.length ≤ 1048576) (hk : 0 ≤ k) (hk' : k ≤ 1073741824) :
    Calls Tryd.prog 39 #[g, .int .i64 k] W fun e w' => e = .returned (.int .i64 (k + xs.length)) ∧ Chg W w' lo hi ∧ YM k xs.length w' lo hi g := by
  obtain ⟨a, c, rfl, o⟩ := h
  refine (markInts_any xs _ k lo W o.1 (by omega) hk hk').mono ?_
  rintro e w' ⟨rfl, gr, ow⟩
  exact ⟨rfl, (o.mark gr ow).1, a, c, rfl, (o.mark gr ow).2⟩
theorem ym_held (n : Nat) (k : Int) (W : World) (lo hi : Nat) (g : Value) (h : YM k n W lo hi g) (hl : n ≤ 1048576) (hk : 0 ≤ k) (hk' : k ≤ 1073741824) :
    Calls Tryd.prog 40 #[g, .int .i64 k] W fun e w' => e = .returned (.int .i64 (k + n)) ∧ Old W w' := by
  obtain ⟨a, c, rfl, o⟩ := h
  exact heldInts_yes n _ k W o.row (by omega) hk hk'
end Go.Proofs.YtinldhoimnbkhaaDoor
/- Proved: contracts of the program's ringsOfParams and GoodParams. -/
namespace Go.Proofs.YtinldhoimnbkhaaDoor
open Go.ChangeShapes Go.WideShapes Go.ChangeAt Go.RowKit
set_option linter.unusedVariables false
set_option linter.unusedSimpArgs false
theorem impl_goodParams2 (N T E : Int) (xs : List Int) (v : Value) (w : World) (hP : PrsW w) (hT : TabW w) (hv : Row w v xs) (hf : Fit v) (hl : xs.length ≤ 9223372036854775807) :
    Calls Tryd.prog 32 #[.agg #[.int .i64 N, .int .i64 T, .int .i64 E, v]] w fun e w' => e = .returned (.bool (prB N T E xs)) ∧ Old w w' := by
  obtain ⟨Rf, hRf⟩ := Rings_roots N xs
  have cr := fun W (g : Old w W) => impl_ringsOfParams N T E xs Rf v W (hP.old g) (hT.old g) (hv.old g) hf hl hRf
  obtain ⟨a0, cap0, ev⟩ := hv.slice
  subst ev
  have HN : Hid (Old w (w.alloc (.cells #[.int .i64 N, .int .i64 T, .int .i64 E, .slice a0 xs.length cap0] 47))) := (Old.refl w).alloc _
  clear hP hT hv hf hRf
  go_enter Tryd.func32, Tryd.ntmps32
  go_wp2_with fail
  refine (cr _ HN.out).mono ?_
  rintro e w1 ⟨g1, h⟩
  have HG1 : Hid (Old w w1) := Old.trans HN.out g1
  clear g1 cr
  rcases h with ⟨hB, rfl⟩ | ⟨hB, g, hg, rfl, hr⟩
  · have HB : Hid (false = prB N T E xs) := hB.symm
    clear hB
    go_wp2_with fail
    go_ret
    exact ⟨ret_bb HB.out, HG1.out⟩
  · have HB : Hid (true = prB N T E xs) := hB.symm
    clear hB hr hg
    go_wp2_with fail
    go_ret
    exact ⟨ret_bb HB.out, HG1.out⟩
end Go.Proofs.YtinldhoimnbkhaaDoor
/- Proved: laws of communication in a call that is walked by its weakest conditions: a region of which one operation is a send into a channel with room, or a receive from one that holds something or is closed. -/
namespace Go.Proofs.YtinldhoimnbkhaaDoor
open Go.ChangeShapes Go.WideShapes Go.ChangeAt Go.RowKit
open Go.Conc
set_option linter.unusedVariables false
set_option linter.unusedSimpArgs false
/-- what a region leads to from some operation on -/
def RegC (P : Program) (ops : Array Oper) (Q : Exit → Act → World → Prop) (is : List Nat) (a : Act) (w : World) : Prop :=
  ∀ (b : Frame) (k : List Item) (cs : List Frame), ∃ e a' w', Q e a' w' ∧ Arrives P (lone (b.at a (.inRegion ops is :: k)) cs w) b k cs e a' w'
section
variable {P : Program} {ops : Array Oper} {Q : Exit → Act → World → Prop} {a : Act} {w : World} {rest : List Nat} {i : Nat} {o : Oper}
theorem wp_regc {id : Nat} (h : RegC P ops Q (List.range ops.size) a w) : (Code.region id ops false).wp P Q a w :=
  fun b k cs => let ⟨e, a', w', q, r⟩ := h b k cs; ⟨e, a', w', q, .of_steps (.one step_region) r⟩
theorem regc_end (h : wpList P ops Q [] a w) : RegC P ops Q [] a w :=
  fun b k cs => ⟨.normal, a, w, h, .one step_region_end⟩
theorem regc_op (ho : ops[i]? = some o) (hw : Region.wanted o (yielded ops a.tmps) = true)
    (h : ∀ K : Act → World → Prop, (∀ a' w', RegC P ops Q rest a' w' → K a' w') → uponK o a K ((execOp a.eval o).run P w)) : RegC P ops Q (i :: rest) a w := by
  intro b k cs
  have h' := h _ (fun _ _ x => x)
  have hg := stepG_op (P := P) (b := b) (k := k) (cs := cs) (w := w) (rest := rest) ho hw
  have hfin : ∀ v, (b.at a (.inRegion ops (i :: rest) :: k)).finish v = b.at (a.put o.dst v) (.inRegion ops rest :: k) := by
    intro v; rw [Frame.finish_at, ho]; rfl
  generalize hr : (execOp a.eval o).run P w = r at h'
  match r, h' with
  | .ok (.value v) w', h' =>
    obtain ⟨e, a', w'', hq, harr⟩ := h' b k cs
    refine ⟨e, a', w'', hq, .of_steps (.one (step_lone_go ?_)) harr⟩
    rw [hg, ← hfin]; simp [stepG.apply, hr]
  | .ok .skip w', h' =>
    obtain ⟨e, a', w'', hq, harr⟩ := h' b k cs
    refine ⟨e, a', w'', hq, .of_steps (.one (step_lone_go ?_)) harr⟩
    rw [hg, ← hfin]; simp [stepG.apply, hr]
theorem comm_step {b : Frame} {k : List Item} {cs : List Frame} {cases : Array CommCase} {blocking : Bool} {shape : CommShape} {w' : World} (ho : ops[i]? = some o) (hw : Region.wanted o (yielded ops a.tmps) = true)
    (hr : (execOp a.eval o).run P w = .ok (.comm cases blocking shape) w') :
    ∃ es, stepG P true (G (b.at a (.inRegion ops (i :: rest) :: k)) cs) w = .comm (G (b.at a (.inRegion ops (i :: rest) :: k)) cs) cases blocking shape w' es := by
  rw [stepG_oper ho hw]
  simp [stepG.apply, hr, G, Frame.at, GStep.after]
theorem regc_send {c cap s r : Nat} {buf : Array Value} {tm : Bool} {v z : Value} (ho : ops[i]? = some o) (hw : Region.wanted o (yielded ops a.tmps) = true)
    (hr : (execOp a.eval o).run P w = .ok (.comm #[scase c v z] true .send) w) (hc : w.heap[c]? = some (.chan cap buf false s r tm)) (hroom : buf.size < cap)
    (h : RegC P ops Q rest (a.put o.dst undef) (w.setChan c cap (buf.push v) false (s + 1) r tm)) : RegC P ops Q (i :: rest) a w := by
  intro b k cs
  obtain ⟨es, hs⟩ := comm_step (b := b) (k := k) (cs := cs) (rest := rest) ho hw hr
  obtain ⟨e, a', w'', hq, harr⟩ := h b k cs
  have st := step_lone_send_room hs hc hroom
  rw [Frame.finish_at, ho] at st
  exact ⟨e, a', w'', hq, .of_steps (.one st) harr⟩
theorem regc_recv {c cap s r : Nat} {buf : Array Value} {tm closed : Bool} {z : Value} (ho : ops[i]? = some o) (hw : Region.wanted o (yielded ops a.tmps) = true)
    (hr : (execOp a.eval o).run P w = .ok (.comm #[rcase c z] true (.recv true)) w) (hc : w.heap[c]? = some (.chan cap buf closed s r tm)) (hsome : 0 < buf.size)
    (h : RegC P ops Q rest (a.put o.dst (.tuple #[buf.getD 0 undef, .bool true])) (w.setChan c cap (buf.extract 1 buf.size) closed s (r + 1) tm)) : RegC P ops Q (i :: rest) a w := by
  intro b k cs
  obtain ⟨es, hs⟩ := comm_step (b := b) (k := k) (cs := cs) (rest := rest) ho hw hr
  obtain ⟨e, a', w'', hq, harr⟩ := h b k cs
  have st := step_lone_recv_buf true hs hc hsome
  rw [Frame.finish_at, ho] at st
  exact ⟨e, a', w'', hq, .of_steps (.one st) harr⟩
theorem regc_shut {c cap s r : Nat} {tm : Bool} {z : Value} (ho : ops[i]? = some o) (hw : Region.wanted o (yielded ops a.tmps) = true)
    (hr : (execOp a.eval o).run P w = .ok (.comm #[rcase c z] true (.recv true)) w) (hc : w.heap[c]? = some (.chan cap #[] true s r tm))
    (h : RegC P ops Q rest (a.put o.dst (.tuple #[z, .bool false])) w) : RegC P ops Q (i :: rest) a w := by
  intro b k cs
  obtain ⟨es, hs⟩ := comm_step (b := b) (k := k) (cs := cs) (rest := rest) ho hw hr
  obtain ⟨e, a', w'', hq, harr⟩ := h b k cs
  have st := step_lone_recv_shut true hs hc
  rw [Frame.finish_at, ho] at st
  exact ⟨e, a', w'', hq, .of_steps (.one st) harr⟩
end
end Go.Proofs.YtinldhoimnbkhaaDoor
/- Proved: the program's purse of words: how it lies in memory, and the contract of take: the next word and true, or 0 and false where the words have run out. -/
namespace Go.Proofs.YtinldhoimnbkhaaDoor
open Go.ChangeShapes Go.WideShapes Go.ChangeAt Go.RowKit
open Go.Conc
set_option linter.unusedVariables false
set_option linter.unusedSimpArgs false
/-- the words from number k on, as a channel holds them -/
def bufI (ws : List Int) (k : Nat) : Array Value := ((ws.drop k).map (Value.int .i64)).toArray
theorem bufI_get (ws : List Int) (k : Nat) (h : k < ws.length) : (bufI ws k).getD 0 undef = .int .i64 (ws.getD k 0) := by
  unfold bufI
  rw [List.drop_eq_getElem_cons h]
  simp [List.getD, h]
theorem bufI_pos (ws : List Int) (k : Nat) (h : k < ws.length) : 0 < (bufI ws k).size := by
  simp [bufI]; omega
theorem bufI_next (ws : List Int) (k : Nat) (h : k < ws.length) : (bufI ws k).extract 1 (bufI ws k).size = bufI ws (k + 1) := by
  unfold bufI
  rw [List.drop_eq_getElem_cons h]
  simp
  exact List.take_of_length_le (by simp; omega)
theorem bufI_end (ws : List Int) : bufI ws ws.length = #[] := by simp [bufI]
/-- a purse at block c + 1 whose channel lies at block c: k words of ws are taken, the others wait -/
structure Pu (w : World) (c : Nat) (ws : List Int) (k : Nat) : Prop where
  lt : c + 1 < w.heap.size
  le : k ≤ ws.length
  cells : w.heap[c + 1]? = some (.cells #[.chan (some c), .int .i64 k] 166 (0, 0))
  chan : ∃ cap s r, w.heap[c]? = some (.chan cap (bufI ws k) true s r false)
theorem Pu.old {w w' : World} {c k : Nat} {ws : List Int} (h : Pu w c ws k) (g : Old w w') : Pu w' c ws k := by
  obtain ⟨h1, h2, h3, cap, s, r, h4⟩ := h
  exact ⟨Nat.lt_of_lt_of_le h1 g.size, h2, (g.block _ h1).trans h3, cap, s, r, (g.block _ (by omega)).trans h4⟩
theorem Pu.chg {w w' : World} {c k lo hi : Nat} {ws : List Int} (h : Pu w c ws k) (g : Chg w w' lo hi) (hd : c + 2 ≤ lo ∨ hi ≤ c) : Pu w' c ws k := by
  obtain ⟨h1, h2, h3, cap, s, r, h4⟩ := h
  exact ⟨Nat.lt_of_lt_of_le h1 g.size, h2, (g.block _ h1 (by omega)).trans h3, cap, s, r, (g.block _ (by omega) (by omega)).trans h4⟩
theorem chg_setChan (w : World) (c cap : Nat) (buf : Array Value) (cl : Bool) (s r : Nat) (tm : Bool) : Chg w (w.setChan c cap buf cl s r tm) c (c + 1) :=
  ⟨rfl, rfl, rfl, by simp [World.setChan], fun k hk ho => by simp only [World.setChan]; rw [Array.getElem?_setIfInBounds_ne (by omega)]⟩
theorem chg_setCell (w : World) (b j : Nat) (v : Value) : Chg w (w.setCell ⟨b, j, none⟩ v) b (b + 1) :=
  ⟨rfl, rfl, rfl, by simp [World.setCell], fun k hk ho => heap_setCell_other w ⟨b, j, none⟩ k v (by show k ≠ b; omega)⟩
theorem Pu.took {w : World} {c k : Nat} {ws : List Int} (h : Pu w c ws k) (hk : k < ws.length) {cap s r : Nat} :
    Pu ((w.setChan c cap (bufI ws (k + 1)) true s r false).setCell ⟨c + 1, 1, none⟩ (.int .i64 ((k : Int) + 1))) c ws (k + 1) := by
  obtain ⟨h1, h2, h3, _⟩ := h
  have e1 : (w.setChan c cap (bufI ws (k + 1)) true s r false).heap[c + 1]? = some (.cells #[.chan (some c), .int .i64 k] 166 (0, 0)) := by
    rw [← h3]; simp only [World.setChan]; rw [Array.getElem?_setIfInBounds_ne (by omega)]
  refine ⟨?_, by omega, ?_, cap, s, r, ?_⟩
  · rw [World.size_setCell, size_setChan]; exact h1
  · rw [heap_setCell_same _ _ _ _ _ _ e1]; rfl
  · rw [heap_setCell_other _ _ _ _ (by show c ≠ c + 1; omega), heap_setChan _ _ _ _ _ _ _ _ (by omega)]
set_option maxRecDepth 100000 in
set_option maxHeartbeats 2000000 in
theorem take_some (ws : List Int) (c k : Nat) (w : World) (h : Pu w c ws k) (hk : k < ws.length) (hl : ws.length ≤ 4000) :
    Calls Tryd.prog 142 #[.pointer (some ⟨c + 1, 0, none⟩)] w fun e w' => e = .returned (.tuple #[.int .i64 (ws.getD k 0), .bool true]) ∧ Chg w w' c (c + 2) ∧ Pu w' c ws (k + 1) := by
  have HP : Hid (Pu w c ws k) := h
  obtain ⟨h1, h2, h3, cap, s, r, h4⟩ := h
  have hc0 : w.cell? ⟨c + 1, 0, none⟩ = some (.chan (some c)) := by rw [cell_of_row _ _ _ _ _ _ h3]; rfl
  have hc1 : (w.setChan c cap (bufI ws (k + 1)) true s (r + 1) false).cell? ⟨c + 1, 1, none⟩ = some (.int .i64 k) := by
    rw [cell_of_row _ (c + 1) 1 #[.chan (some c), .int .i64 k] 166 (0, 0) (by rw [← h3]; simp only [World.setChan]; rw [Array.getElem?_setIfInBounds_ne (by omega)])]; rfl
  have hf1 : (w.setChan c cap (bufI ws (k + 1)) true s (r + 1) false).frozen? ⟨c + 1, 1, none⟩ = false := 
    frozen_of_row _ (c + 1) 1 #[.chan (some c), .int .i64 k] 166 (by rw [← h3]; simp only [World.setChan]; rw [Array.getElem?_setIfInBounds_ne (by omega)])
  have HF : Hid (Pu ((w.setChan c cap (bufI ws (k + 1)) true s (r + 1) false).setCell ⟨c + 1, 1, none⟩ (.int .i64 ((k : Int) + 1))) c ws (k + 1)) := HP.out.took (cap := cap) (s := s) (r := r + 1) hk
  have H4 : Hid (w.heap[c]? = some (.chan cap (bufI ws k) true s r false)) := h4
  have HX : Hid ((bufI ws k).getD 0 undef = .int .i64 (ws.getD k 0)) := bufI_get ws k hk
  have HN : Hid ((bufI ws k).extract 1 (bufI ws k).size = bufI ws (k + 1)) := bufI_next ws k hk
  have HS : Hid (0 < (bufI ws k).size) := bufI_pos ws k hk
  clear h1 h2 h3 h4
  generalize ws.getD k 0 = x at HX ⊢
  go_enter Tryd.func142, Tryd.ntmps142
  iterate 13 go_step
  refine wp_regc (id := 1) ?_
  simp only [List.size_toArray, List.length_cons, List.length_nil, Nat.reduceAdd, Nat.zero_add, List.range, List.range.loop]
  iterate 4 (refine regc_op rfl rfl (fun K hK => ?_); go_simp; refine hK _ _ ?_; clear hK K)
  refine regc_recv (c := c) (cap := cap) (s := s) (r := r) (buf := bufI ws k) (tm := false) (closed := true) (z := .int .i64 0) rfl rfl (by simp [go_sem, rcase, Act.eval]) H4.out HS.out ?_
  rw [HX.out, HN.out]
  iterate 5 (refine regc_op rfl rfl (fun K hK => ?_); go_simp; refine hK _ _ ?_; clear hK K)
  refine regc_end ?_
  go_wp2_with fail
  go_ret2
  exact ⟨rfl, ((chg_setChan w c cap _ _ _ _ _).wide (Nat.le_refl _) (by omega)).trans ((chg_setCell _ (c + 1) 1 _).wide (by omega) (Nat.le_refl _)), HF.out⟩
set_option maxRecDepth 100000 in
set_option maxHeartbeats 2000000 in
theorem take_none (ws : List Int) (c : Nat) (w : World) (h : Pu w c ws ws.length) :
    Calls Tryd.prog 142 #[.pointer (some ⟨c + 1, 0, none⟩)] w fun e w' => e = .returned (.tuple #[.int .i64 0, .bool false]) ∧ w' = w := by
  obtain ⟨h1, h2, h3, cap, s, r, h4⟩ := h
  rw [bufI_end] at h4
  have hc0 : w.cell? ⟨c + 1, 0, none⟩ = some (.chan (some c)) := by rw [cell_of_row _ _ _ _ _ _ h3]; rfl
  have H4 : Hid (w.heap[c]? = some (.chan cap #[] true s r false)) := h4
  clear h1 h2 h3 h4
  go_enter Tryd.func142, Tryd.ntmps142
  iterate 13 go_step
  refine wp_regc (id := 1) ?_
  simp only [List.size_toArray, List.length_cons, List.length_nil, Nat.reduceAdd, Nat.zero_add, List.range, List.range.loop]
  iterate 4 (refine regc_op rfl rfl (fun K hK => ?_); go_simp; refine hK _ _ ?_; clear hK K)
  refine regc_shut (c := c) (cap := cap) (s := s) (r := r) (tm := false) (z := .int .i64 0) rfl rfl (by simp [go_sem, rcase, Act.eval]) H4.out ?_
  iterate 5 (refine regc_op rfl rfl (fun K hK => ?_); go_simp; refine hK _ _ ?_; clear hK K)
  refine regc_end ?_
  go_wp2_with fail
  go_ret2
  exact ⟨rfl, rfl⟩
end Go.Proofs.YtinldhoimnbkhaaDoor
/- Proved: the contract of purseOf: the words from some number on wait in a channel that is closed behind them. -/
namespace Go.Proofs.YtinldhoimnbkhaaDoor
open Go.ChangeShapes Go.WideShapes Go.ChangeAt Go.RowKit
open Go.Conc
set_option linter.unusedVariables false
set_option linter.unusedSimpArgs false
theorem bytesInt : ∃ i, Tryd.prog.info? 3 = some i ∧ i.bytes = 8 := by
  obtain ⟨i0, hi, hz0, hz1, hz2⟩ := info_parts Tryd.infoInt
  exact ⟨i0, hi, hz2⟩
theorem make_chan (w : World) (n : Nat) (hn : n ≤ 4000) : (Instr.makeChan 167 (.int .i64 n)).run Tryd.prog w = .ok (.chan (some w.heap.size)) (w.alloc (.chan n #[] false 0 0 false)) := by
  obtain ⟨i, hi, hb⟩ := bytesInt
  exact run_makeChan (P := Tryd.prog) (w := w) Tryd.underlying167 hi .i64 n (by omega) (by rw [hb]; omega)
/-- j words from number k on -/
def bufN (ws : List Int) (k j : Nat) : Array Value := (((ws.drop k).take j).map (Value.int .i64)).toArray
theorem bufN_push (ws : List Int) (k j : Nat) (h : k + j < ws.length) : (bufN ws k j).push (.int .i64 (ws.getD (k + j) 0)) = bufN ws k (j + 1) := by
  unfold bufN
  rw [List.take_add_one]
  simp [List.getD, h]
theorem bufN_size (ws : List Int) (k j : Nat) (h : k + j ≤ ws.length) : (bufN ws k j).size = j := by simp [bufN]; omega
theorem bufN_all (ws : List Int) (k n : Nat) (h : ws.length = k + n) : bufN ws k n = bufI ws k := by
  unfold bufN bufI
  rw [List.take_of_length_le (by simp; omega)]
theorem old_setChan {a w : World} (h : Old a w) {c : Nat} (hc : a.heap.size ≤ c) (cap : Nat) (buf : Array Value) (cl : Bool) (s r : Nat) (tm : Bool) : Old a (w.setChan c cap buf cl s r tm) := below_setChan h hc cap buf cl s r tm
set_option maxRecDepth 100000 in
set_option maxHeartbeats 2000000 in
theorem purseOf_some (ws : List Int) (b o cap at_ n : Nat) (w : World) (hb : b < w.heap.size) (hc : ∀ j, j < ws.length → w.cell? ⟨b, o + j, none⟩ = some (.int .i64 (ws.getD j 0))) (hcap : ws.length ≤ cap) (hl : ws.length ≤ 4000) (hn : ws.length = at_ + n) :
    Calls Tryd.prog 120 #[.slice (some ⟨b, o, none⟩) ws.length cap, .int .i64 at_] w fun e w' => e = .returned (.pointer (some ⟨w.heap.size + 1, 0, none⟩)) ∧ Old w w' ∧ Pu w' w.heap.size ws at_ := by
  have HC : Hid (∀ j, j < ws.length → w.cell? ⟨b, o + j, none⟩ = some (.int .i64 (ws.getD j 0))) := hc
  have HL : Hid (ws.length = at_ + n) := hn
  have hmk := make_chan w n (by omega)
  have e1 : (ws.length : Int) - (at_ : Int) = (n : Int) := by omega
  have d1 : decide ((at_ : Int) < 0) = false := decide_eq_false (by omega)
  have e3 : ws.length - at_ = n := by omega
  have b1 : at_ ≤ ws.length := by omega
  have b2 : n ≤ 4000 := by omega
  clear hn hc
  by_cases hca : cap = at_
  · have hn0 : n = 0 := by omega
    subst hn0
    subst hca
    have e4 : ws.length = cap := by omega
    have hmk0 : (Instr.makeChan 167 (.int .i64 0)).run Tryd.prog w = .ok (.chan (some w.heap.size)) (w.alloc (.chan 0 #[] false 0 0 false)) := make_chan w 0 (by omega)
    have HE : Hid (bufI ws cap = #[]) := by rw [← e4]; exact bufI_end ws
    rw [e4]
    clear hmk HC HL e1 e3 b2 hcap
    have hl' : cap ≤ 4000 := by omega
    have HX : Hid (ws.length = cap) := e4
    clear e4 hl b1
    have hcl := fun ats ty => run_close_open (P := Tryd.prog) (w := w.alloc (.chan 0 #[] false 0 0 false)) ats ty (heap_alloc_new _ _)
    go_enter Tryd.func120, Tryd.ntmps120
    go_wp2_with fail
    refine wp_loop_rounds 1 ?_
    rw [rounds_succ]
    go_wp2_with fail
    go_ret
    have hz : (w.alloc (.chan 0 #[] false 0 0 false)).heap.size = w.heap.size + 1 := by simp
    refine ⟨rfl, ?_, ?_⟩
    · exact (old_setChan ((Old.refl w).alloc (.chan 0 #[] false 0 0 false)) (Nat.le_refl _) 0 #[] true 0 0 false).alloc _
    · refine ⟨?_, by rw [HX.out]; exact Nat.le_refl _, ?_, 0, 0, 0, ?_⟩
      · show _ < (World.alloc _ _).heap.size
        simp
      · have := heap_alloc_new ((w.alloc (.chan 0 #[] false 0 0 false)).setChan w.heap.size 0 #[] true 0 0 false) (.cells #[.chan (some w.heap.size), .int .i64 cap] 166)
        rw [size_setChan, hz] at this
        exact this
      · have := heap_alloc_old ((w.alloc (.chan 0 #[] false 0 0 false)).setChan w.heap.size 0 #[] true 0 0 false) (.cells #[.chan (some w.heap.size), .int .i64 cap] 166) (r := w.heap.size) (by rw [size_setChan, hz]; omega)
        rw [HE.out]
        exact this.trans (heap_setChan _ _ _ _ _ _ _ _ (by rw [hz]; omega))
  · go_enter Tryd.func120, Tryd.ntmps120
    go_wp2_with fail
    go_loopw [17] (fun i W => ∃ j : Nat, j ≤ n ∧ i = .int .i64 j ∧ Hid (W.heap[w.heap.size]? = some (.chan n (bufN ws at_ j) false j 0 false)) ∧ Hid (Old w W) ∧ Hid (W.heap.size = w.heap.size + 1)) (fun i _ => n - (intOf i).toNat)
    case atStart => exact ⟨0, by omega, rfl, heap_alloc_new _ _, (Old.refl w).alloc _, by show (w.alloc _).heap.size = _; simp⟩
    case round =>
      obtain ⟨j, hj, rfl, HQ, HG, HZ⟩ := hrel
      clear hmk
      by_cases hlt : j < n
      · have dl : decide ((j : Int) < (n : Int)) = true := by simp; omega
        have c1 : wr.cell? ⟨b, o + at_ + j, none⟩ = some (.int .i64 (ws.getD (at_ + j) 0)) := by
          rw [Nat.add_assoc]
          exact (HG.out.cell (p := ⟨b, o + (at_ + j), none⟩) hb).trans (HC.out (at_ + j) (by have := HL.out; omega))
        have HPu : Hid ((bufN ws at_ j).push (.int .i64 (ws.getD (at_ + j) 0)) = bufN ws at_ (j + 1)) := bufN_push ws at_ j (by have := HL.out; omega)
        have HSz : Hid ((bufN ws at_ j).size < n) := by show _ < n; rw [bufN_size ws at_ j (by have := HL.out; omega)]; exact hlt
        generalize ws.getD (at_ + j) 0 = x at c1 HPu
        iterate 30 go_step
        refine wp_regc (id := 5) ?_
        simp only [List.size_toArray, List.length_cons, List.length_nil, Nat.reduceAdd, Nat.zero_add, List.range, List.range.loop]
        iterate 2 (refine regc_op rfl rfl (fun K hK => ?_); go_simp; refine hK _ _ ?_; clear hK K)
        refine regc_send (c := w.heap.size) (cap := n) (s := j) (r := 0) (buf := bufN ws at_ j) (tm := false) (v := .int .i64 x) (z := .tuple #[]) rfl rfl (by simp [execOp, scase, Act.eval]) HQ.out HSz.out ?_
        rw [HPu.out]
        refine regc_end ?_
        go_wp2_with fail
        exact ⟨⟨j + 1, by omega, by go_num, heap_setChan _ _ _ _ _ _ _ _ (by rw [HZ.out]; omega), old_setChan HG.out (Nat.le_refl _) _ _ _ _ _ _, by show (World.setChan _ _ _ _ _ _ _ _).heap.size = _; rw [size_setChan]; exact HZ.out⟩, by simp [intOf]; omega⟩
      · have dl : decide ((j : Int) < (n : Int)) = false := by simp; omega
        obtain rfl : j = n := by omega
        have hcl := fun ats ty => run_close_open (P := Tryd.prog) (w := wr) ats ty HQ.out
        have HE : Hid (bufN ws at_ j = bufI ws at_) := bufN_all ws at_ j HL.out
        go_wp2_with fail
        go_ret
        rw [HZ.out, HE.out]
        refine ⟨rfl, ?_, ?_⟩
        · exact (old_setChan HG.out (Nat.le_refl _) j (bufI ws at_) true j 0 false).alloc _
        · refine ⟨?_, b1, ?_, j, j, 0, ?_⟩
          · show _ < (World.alloc _ _).heap.size
            simp [HZ.out]
          · have := heap_alloc_new (wr.setChan w.heap.size j (bufI ws at_) true j 0 false) (.cells #[.chan (some w.heap.size), .int .i64 at_] 166)
            rw [size_setChan, HZ.out] at this
            exact this
          · have := heap_alloc_old (wr.setChan w.heap.size j (bufI ws at_) true j 0 false) (.cells #[.chan (some w.heap.size), .int .i64 at_] 166) (r := w.heap.size) (by rw [size_setChan, HZ.out]; omega)
            exact this.trans (heap_setChan _ _ _ _ _ _ _ _ (by rw [HZ.out]; omega))
set_option maxRecDepth 100000 in
set_option maxHeartbeats 2000000 in
theorem purseOf_none (a : Option Addr) (cap : Nat) (w : World) :
    Calls Tryd.prog 120 #[.slice a 0 cap, .int .i64 0] w fun e w' => e = .returned (.pointer (some ⟨w.heap.size + 1, 0, none⟩)) ∧ Old w w' ∧ Pu w' w.heap.size [] 0 := by
  have hmk0 : (Instr.makeChan 167 (.int .i64 0)).run Tryd.prog w = .ok (.chan (some w.heap.size)) (w.alloc (.chan 0 #[] false 0 0 false)) := make_chan w 0 (by omega)
  have hcl := fun ats ty => run_close_open (P := Tryd.prog) (w := w.alloc (.chan 0 #[] false 0 0 false)) ats ty (heap_alloc_new _ _)
  go_enter Tryd.func120, Tryd.ntmps120
  go_wp2_with fail
  all_goals (
    refine wp_loop_rounds 1 ?_
    rw [rounds_succ]
    go_wp2_with fail
    go_ret
    have hz : (w.alloc (.chan 0 #[] false 0 0 false)).heap.size = w.heap.size + 1 := by simp
    refine ⟨rfl, ?_, ?_⟩
    · exact (old_setChan ((Old.refl w).alloc (.chan 0 #[] false 0 0 false)) (Nat.le_refl _) 0 #[] true 0 0 false).alloc _
    · refine ⟨?_, Nat.le_refl _, ?_, 0, 0, 0, ?_⟩
      · show _ < (World.alloc _ _).heap.size
        simp
      · have := heap_alloc_new ((w.alloc (.chan 0 #[] false 0 0 false)).setChan w.heap.size 0 #[] true 0 0 false) (.cells #[.chan (some w.heap.size), .int .i64 0] 166)
        rw [size_setChan, hz] at this
        exact this
      · have := heap_alloc_old ((w.alloc (.chan 0 #[] false 0 0 false)).setChan w.heap.size 0 #[] true 0 0 false) (.cells #[.chan (some w.heap.size), .int .i64 0] 166) (r := w.heap.size) (by rw [size_setChan, hz]; omega)
        exact this.trans (heap_setChan _ _ _ _ _ _ _ _ (by rw [hz]; omega)))
/-- a slice's length is at most its capacity -/
def Fit7 : Value → Prop
  | .slice _ n c => n ≤ c
  | _ => True
theorem purseOf_any (ws : List Int) (v : Value) (at_ : Nat) (w : World) (h : Row w v ws) (hf : Fit7 v) (hl : ws.length ≤ 4000) (ha : at_ ≤ ws.length) :
    Calls Tryd.prog 120 #[v, .int .i64 at_] w fun e w' => e = .returned (.pointer (some ⟨w.heap.size + 1, 0, none⟩)) ∧ Old w w' ∧ Pu w' w.heap.size ws at_ := by
  rcases h with ⟨a, cap, rfl, rfl⟩ | ⟨b, o, cap, rfl, hb, h0, hc⟩
  · obtain rfl : at_ = 0 := by simpa using ha
    exact purseOf_none a cap w
  · exact purseOf_some ws b o cap at_ (ws.length - at_) w hb hc hf hl (by omega)
end Go.Proofs.YtinldhoimnbkhaaDoor
/- Proved: contracts of the tests of chapter 7: whether words are words (areWords, l7Words), and whether one may draw (mayDraw). -/
namespace Go.Proofs.YtinldhoimnbkhaaDoor
open Go.ChangeShapes Go.WideShapes Go.ChangeAt Go.RowKit
set_option linter.unusedVariables false
set_option linter.unusedSimpArgs false
/-- a word -/
def wd (x : Int) : Bool := decide (0 ≤ x) && decide (x < 4294967296)
/-- every one is a word -/
def wdB (ws : List Int) : Bool := ws.all wd
/-- words: not too many, and each is one -/
def wsB (ws : List Int) : Bool := decide (ws.length ≤ 4000) && wdB ws
theorem wdB_get {ws : List Int} (h : wdB ws = true) (k : Nat) (hk : k < ws.length) : 0 ≤ ws.getD k 0 ∧ ws.getD k 0 < 4294967296 := by
  have := List.all_eq_true.1 h (ws.getD k 0) (by simp [List.getD, hk])
  simpa [wd] using this
theorem wdB_yes {ws : List Int} (h : ∀ k, k < ws.length → wd (ws.getD k 0) = true) : wdB ws = true := by
  refine List.all_eq_true.2 (fun x hx => ?_)
  obtain ⟨k, hk, rfl⟩ := List.getElem_of_mem hx
  have := h k hk
  simpa [List.getD, hk] using this
theorem wdB_no {ws : List Int} (k : Nat) (hk : k < ws.length) (h : wd (ws.getD k 0) = false) : wdB ws = false := by
  refine Bool.eq_false_iff.2 (fun e => ?_)
  have := List.all_eq_true.1 e (ws.getD k 0) (by simp [List.getD, hk])
  rw [h] at this
  cases this
theorem resB_wd (x : Int) : resB x 4294967296 = wd x := rfl
theorem inQ_wd (x : Int) : inQ x 0 4294967295 = wd x := by
  unfold inQ wd
  by_cases h : x ≤ 4294967295
  · rw [decide_eq_true h, decide_eq_true (show x < 4294967296 by omega)]
  · rw [decide_eq_false h, decide_eq_false (show ¬ x < 4294967296 by omega)]
set_option maxRecDepth 100000 in
set_option maxHeartbeats 2000000 in
theorem areWords_any (ws : List Int) (v : Value) (w : World) (h : Row w v ws) (hl : ws.length ≤ 9223372036854775807) :
    Calls Tryd.prog 141 #[v] w fun e w' => e = .returned (.bool (wsB ws)) ∧ w' = w := by
  by_cases hbig : 4000 < ws.length
  · have hR : wsB ws = false := by simp [wsB]; omega
    rw [hR]
    obtain ⟨a, cap, rfl⟩ := h.slice
    have d1 : decide ((4000 : Int) < (ws.length : Int)) = true := decide_eq_true (by omega)
    clear hR h
    go_enter Tryd.func141, Tryd.ntmps141
    go_wp2_with fail
    go_ret
    exact ⟨rfl, rfl⟩
  · have d1 : decide ((4000 : Int) < (ws.length : Int)) = false := decide_eq_false (by omega)
    have HR : Hid (wsB ws = wdB ws) := by show wsB ws = wdB ws; simp [wsB]; omega
    have bl : ws.length ≤ 4000 := by omega
    clear hbig hl
    rcases h with ⟨a, cap, rfl, rfl⟩ | ⟨b, o, cap, rfl, hb, h0, hc⟩
    · go_enter Tryd.func141, Tryd.ntmps141
      go_wp2_with fail
      refine wp_loop_rounds 1 ?_
      rw [rounds_succ]
      go_wp2_with fail
      go_ret
      exact ⟨rfl, rfl⟩
    · have HC : Hid (∀ j, j < ws.length → w.cell? ⟨b, o + j, none⟩ = some (.int .i64 (ws.getD j 0))) := hc
      clear hc h0 hb
      go_enter Tryd.func141, Tryd.ntmps141
      go_wp2_with fail
      go_loopw [10] (fun i W => ∃ k : Nat, k ≤ ws.length ∧ i = .int .i64 k ∧ W = w ∧ Hid (∀ j, j < k → wd (ws.getD j 0) = true)) (fun i _ => ws.length - (intOf i).toNat)
      case atStart => exact ⟨0, by omega, rfl, rfl, fun j hj => absurd hj (by omega)⟩
      case round =>
        obtain ⟨k, hk, rfl, rfl, HW⟩ := hrel
        by_cases hlt : k < ws.length
        · have dl : decide ((k : Int) < (ws.length : Int)) = true := by simp; omega
          have c1 := HC.out k hlt
          cases hx : wd (ws.getD k 0)
          · have HF : Hid (wdB ws = false) := wdB_no k hlt hx
            have K1 : ∀ W, Calls Tryd.prog 132 #[.int .i64 (ws.getD k 0), .int .i64 4294967296] W fun e w' => e = .returned (.bool false) ∧ w' = W := fun W => by
              have := residue_any (ws.getD k 0) 4294967296 W
              rw [resB_wd, hx] at this
              exact this
            clear hx HW
            generalize ws.getD k 0 = x at c1 K1
            go_wp2_with fail
            refine (K1 _).mono ?_
            rintro e w' ⟨rfl, rfl⟩
            go_wp2_with fail
            go_ret
            exact ⟨by rw [HR.out, HF.out]; rfl, rfl⟩
          · have HF : Hid (∀ j, j < k + 1 → wd (ws.getD j 0) = true) := fun j hj => by
              rcases Nat.lt_or_ge j k with h1 | h1
              · exact HW.out j h1
              · obtain rfl : j = k := by omega
                exact hx
            have K1 : ∀ W, Calls Tryd.prog 132 #[.int .i64 (ws.getD k 0), .int .i64 4294967296] W fun e w' => e = .returned (.bool true) ∧ w' = W := fun W => by
              have := residue_any (ws.getD k 0) 4294967296 W
              rw [resB_wd, hx] at this
              exact this
            clear hx HW
            generalize ws.getD k 0 = x at c1 K1
            go_wp2_with fail
            refine (K1 _).mono ?_
            rintro e w' ⟨rfl, hw⟩
            obtain rfl := hw
            go_wp2_with fail
            exact ⟨⟨k + 1, by omega, by go_num, by trivial, HF⟩, by simp [intOf]; omega⟩
        · have dl : decide ((k : Int) < (ws.length : Int)) = false := by simp; omega
          have HF : Hid (wdB ws = true) := wdB_yes (fun j hj => HW.out j (by omega))
          go_wp2_with fail
          go_ret
          exact ⟨by rw [HR.out, HF.out]; rfl, rfl⟩
set_option maxRecDepth 100000 in
set_option maxHeartbeats 2000000 in
theorem l7Words_any (ws : List Int) (v : Value) (at_ : Int) (w : World) (h : Row w v ws) (hl : ws.length ≤ 9223372036854775807) :
    Calls Tryd.prog 71 #[v, .int .i64 at_] w fun e w' => e = .returned (.bool (wsB ws && inQ at_ 0 ws.length)) ∧ w' = w := by
  by_cases hbig : 4000 < ws.length
  · have hR : wsB ws = false := by simp [wsB]; omega
    rw [hR, Bool.false_and]
    obtain ⟨a, cap, rfl⟩ := h.slice
    have d1 : decide ((4000 : Int) < (ws.length : Int)) = true := decide_eq_true (by omega)
    clear hR h
    go_enter Tryd.func71, Tryd.ntmps71
    go_wp2_with fail
    go_ret
    exact ⟨rfl, rfl⟩
  · have d1 : decide ((4000 : Int) < (ws.length : Int)) = false := decide_eq_false (by omega)
    have HR : Hid (wsB ws = wdB ws) := by show wsB ws = wdB ws; simp [wsB]; omega
    have bl : ws.length ≤ 4000 := by omega
    clear hbig hl
    have hK0 : ∀ W, Calls Tryd.prog 68 #[.int .i64 at_, .int .i64 0, .int .i64 (ws.length : Int)] W fun e w' => e = .returned (.bool (inQ at_ 0 ws.length)) ∧ w' = W := fun W => in_any at_ 0 ws.length W
    cases ha : inQ at_ 0 ws.length
    · rw [ha] at hK0
      rw [Bool.and_false]
      obtain ⟨a, cap, rfl⟩ := h.slice
      clear ha h
      go_enter Tryd.func71, Tryd.ntmps71
      go_wp2_with fail
      refine (hK0 _).mono ?_
      rintro e w' ⟨rfl, rfl⟩
      go_wp2_with fail
      go_ret
      exact ⟨rfl, rfl⟩
    rw [ha] at hK0
    rw [Bool.and_true]
    have K0 : Hid (∀ W, Calls Tryd.prog 68 #[.int .i64 at_, .int .i64 0, .int .i64 (ws.length : Int)] W fun e w' => e = .returned (.bool true) ∧ w' = W) := hK0
    clear ha hK0
    rcases h with ⟨a, cap, rfl, rfl⟩ | ⟨b, o, cap, rfl, hb, h0, hc⟩
    · go_enter Tryd.func71, Tryd.ntmps71
      go_wp2_with fail
      refine (K0.out _).mono ?_
      rintro e w0 ⟨rfl, hw0⟩
      obtain rfl := hw0.symm
      go_wp2_with fail
      refine wp_loop_rounds 1 ?_
      rw [rounds_succ]
      go_wp2_with fail
      go_ret
      exact ⟨rfl, rfl⟩
    · have HC : Hid (∀ j, j < ws.length → w.cell? ⟨b, o + j, none⟩ = some (.int .i64 (ws.getD j 0))) := hc
      clear hc h0 hb
      go_enter Tryd.func71, Tryd.ntmps71
      go_wp2_with fail
      refine (K0.out _).mono ?_
      rintro e w0 ⟨rfl, hw0⟩
      obtain rfl := hw0.symm
      go_wp2_with fail
      go_loopw [19] (fun i W => ∃ k : Nat, k ≤ ws.length ∧ i = .int .i64 k ∧ W = w ∧ Hid (∀ j, j < k → wd (ws.getD j 0) = true)) (fun i _ => ws.length - (intOf i).toNat)
      case atStart => exact ⟨0, by omega, rfl, rfl, fun j hj => absurd hj (by omega)⟩
      case round =>
        obtain ⟨k, hk, rfl, rfl, HW⟩ := hrel
        by_cases hlt : k < ws.length
        · have dl : decide ((k : Int) < (ws.length : Int)) = true := by simp; omega
          have c1 := HC.out k hlt
          cases hx : wd (ws.getD k 0)
          · have HF : Hid (wdB ws = false) := wdB_no k hlt hx
            have K1 : ∀ W, Calls Tryd.prog 68 #[.int .i64 (ws.getD k 0), .int .i64 0, .int .i64 4294967295] W fun e w' => e = .returned (.bool false) ∧ w' = W := fun W => by
              have := in_any (ws.getD k 0) 0 4294967295 W
              rw [inQ_wd, hx] at this
              exact this
            clear hx HW
            generalize ws.getD k 0 = x at c1 K1
            go_wp2_with fail
            refine (K1 _).mono ?_
            rintro e w' ⟨rfl, rfl⟩
            go_wp2_with fail
            go_ret
            exact ⟨by rw [HR.out, HF.out]; rfl, rfl⟩
          · have HF : Hid (∀ j, j < k + 1 → wd (ws.getD j 0) = true) := fun j hj => by
              rcases Nat.lt_or_ge j k with h1 | h1
              · exact HW.out j h1
              · obtain rfl : j = k := by omega
                exact hx
            have K1 : ∀ W, Calls Tryd.prog 68 #[.int .i64 (ws.getD k 0), .int .i64 0, .int .i64 4294967295] W fun e w' => e = .returned (.bool true) ∧ w' = W := fun W => by
              have := in_any (ws.getD k 0) 0 4294967295 W
              rw [inQ_wd, hx] at this
              exact this
            clear hx HW
            generalize ws.getD k 0 = x at c1 K1
            go_wp2_with fail
            refine (K1 _).mono ?_
            rintro e w' ⟨rfl, hw⟩
            obtain rfl := hw
            go_wp2_with fail
            exact ⟨⟨k + 1, by omega, by go_num, by trivial, HF⟩, by simp [intOf]; omega⟩
        · have dl : decide ((k : Int) < (ws.length : Int)) = false := by simp; omega
          have HF : Hid (wdB ws = true) := wdB_yes (fun j hj => HW.out j (by omega))
          go_wp2_with fail
          go_ret
          exact ⟨by rw [HR.out, HF.out]; rfl, rfl⟩
set_option maxRecDepth 100000 in
set_option maxHeartbeats 2000000 in
theorem mayDraw_any (ws : List Int) (v : Value) (at_ n : Int) (w : World) (h : Row w v ws) (hl : ws.length ≤ 9223372036854775807) :
    Calls Tryd.prog 117 #[v, .int .i64 at_, .int .i64 n] w fun e w' => e = .returned (.bool (wsB ws && inQ at_ 0 ws.length && inQ n 0 64)) ∧ w' = w := by
  have K0 : ∀ W, W = w → Calls Tryd.prog 141 #[v] W fun e w' => e = .returned (.bool (wsB ws)) ∧ w' = W := fun W e => by subst e; exact areWords_any ws v _ h hl
  obtain ⟨a, cap, rfl⟩ := h.slice
  clear h
  unfold inQ
  cases hq : wsB ws
  · rw [hq] at K0
    go_enter Tryd.func117, Tryd.ntmps117
    go_wp2_with fail
    refine (K0 _ rfl).mono ?_
    rintro e w' ⟨rfl, rfl⟩
    go_wp2_with fail
    go_ret
    exact ⟨by simp, rfl⟩
  · rw [hq] at K0
    have s1 : ∀ x : Bool, (true && x) = x := fun x => by simp
    by_cases h1 : 0 ≤ at_
    · have d1 : decide (0 ≤ at_) = true := decide_eq_true h1
      by_cases h2 : at_ ≤ (ws.length : Int)
      · have d2 : decide (at_ ≤ (ws.length : Int)) = true := decide_eq_true h2
        by_cases h3 : 0 ≤ n
        · have d3 : decide (0 ≤ n) = true := decide_eq_true h3
          go_enter Tryd.func117, Tryd.ntmps117
          go_wp2_with fail
          refine (K0 _ rfl).mono ?_
          rintro e w' ⟨rfl, rfl⟩
          go_wp2_with fail
          go_ret
          exact ⟨by simp [d1, d2, d3], rfl⟩
        · have d3 : decide (0 ≤ n) = false := decide_eq_false h3
          go_enter Tryd.func117, Tryd.ntmps117
          go_wp2_with fail
          refine (K0 _ rfl).mono ?_
          rintro e w' ⟨rfl, rfl⟩
          go_wp2_with fail
          go_ret
          exact ⟨by simp [d1, d2, d3], rfl⟩
      · have d2 : decide (at_ ≤ (ws.length : Int)) = false := decide_eq_false h2
        go_enter Tryd.func117, Tryd.ntmps117
        go_wp2_with fail
        refine (K0 _ rfl).mono ?_
        rintro e w' ⟨rfl, rfl⟩
        go_wp2_with fail
        go_ret
        exact ⟨by simp [d1, d2], rfl⟩
    · have d1 : decide (0 ≤ at_) = false := decide_eq_false h1
      go_enter Tryd.func117, Tryd.ntmps117
      go_wp2_with fail
      refine (K0 _ rfl).mono ?_
      rintro e w' ⟨rfl, rfl⟩
      go_wp2_with fail
      go_ret
      exact ⟨by simp [d1], rfl⟩
end Go.Proofs.YtinldhoimnbkhaaDoor
/- Proved: contracts of the program's draw of a number below a modulus: words are passed over up to the first below the last multiple. -/
namespace Go.Proofs.YtinldhoimnbkhaaDoor
open Go.ChangeShapes Go.WideShapes Go.ChangeAt Go.RowKit
set_option linter.unusedVariables false
set_option linter.unusedSimpArgs false
/-- the last multiple -/
def mulM (p : Nat) : Nat := 4294967296 / p * p
theorem mulM_sub (p : Nat) : 4294967296 - 4294967296 % p = mulM p := by
  have := Nat.div_add_mod 4294967296 p
  unfold mulM
  rw [Nat.mul_comm]
  omega
theorem mulM_le (p : Nat) : mulM p ≤ 4294967296 := by rw [← mulM_sub]; omega
theorem mulM_pos (p : Nat) (h0 : 1 ≤ p) (h : p ≤ 268435456) : 0 < mulM p := by
  rw [← mulM_sub]
  have := Nat.mod_lt 4294967296 (show 0 < p by omega)
  omega
/-- number J is where the draw from number k on stops -/
structure Stp (ws : List Int) (M : Nat) (k J : Nat) : Prop where
  ge : k ≤ J
  le : J ≤ ws.length
  no : ∀ i, k ≤ i → i < J → (M : Int) ≤ ws.getD i 0
  yes : J < ws.length → ws.getD J 0 < (M : Int)
theorem Stp.next {ws : List Int} {M k J : Nat} (h : Stp ws M k J) (hk : k < ws.length) (hx : (M : Int) ≤ ws.getD k 0) : Stp ws M (k + 1) J := by
  obtain ⟨h1, h2, h3, h4⟩ := h
  have : k ≠ J := fun e => by subst e; have := h4 hk; omega
  exact ⟨by omega, h2, fun i hi hj => h3 i (by omega) hj, h4⟩
theorem Stp.here {ws : List Int} {M k J : Nat} (h : Stp ws M k J) (hx : ws.getD k 0 < (M : Int)) : k = J := by
  obtain ⟨h1, h2, h3, h4⟩ := h
  rcases Nat.lt_or_ge k J with h5 | h5
  · have := h3 k (Nat.le_refl _) h5; omega
  · omega
theorem Stp.is (ws : List Int) (M : Nat) : ∀ n k, k + n = ws.length → ∃ J, Stp ws M k J
  | 0, k, h => ⟨k, Nat.le_refl _, by omega, fun i hi hj => by omega, fun hk => by omega⟩
  | n + 1, k, h => by
    by_cases hx : ws.getD k 0 < (M : Int)
    · exact ⟨k, Nat.le_refl _, by omega, fun i hi hj => by omega, fun _ => hx⟩
    · obtain ⟨J, h1, h2, h3, h4⟩ := Stp.is ws M n (k + 1) (by omega)
      refine ⟨J, by omega, h2, fun i hi hj => ?_, h4⟩
      rcases Nat.eq_or_lt_of_le hi with e | e
      · subst e; omega
      · exact h3 i e hj
/-- the number that a purse bears -/
def nextOf (W : World) (c : Nat) : Nat := match W.cell? ⟨c + 1, 1, none⟩ with
  | some (.int _ n) => n.toNat
  | _ => 0
theorem Pu.next {w : World} {c k : Nat} {ws : List Int} (h : Pu w c ws k) : nextOf w c = k := by
  have : w.cell? ⟨c + 1, 1, none⟩ = some (.int .i64 k) := by rw [cell_of_row _ _ _ _ _ _ h.cells]; rfl
  simp [nextOf, this]
def okN : Value → Nat
  | .bool true => 1
  | _ => 0
/-- what take leaves -/
theorem take_any (ws : List Int) (c k : Nat) (w : World) (h : Pu w c ws k) (hl : ws.length ≤ 4000) :
    Calls Tryd.prog 142 #[.pointer (some ⟨c + 1, 0, none⟩)] w fun e w' => Chg w w' c (c + 2) ∧ Hid ((k < ws.length ∧ e = .returned (.tuple #[.int .i64 (ws.getD k 0), .bool true]) ∧ Pu w' c ws (k + 1)) ∨ (k = ws.length ∧ e = .returned (.tuple #[.int .i64 0, .bool false]) ∧ Pu w' c ws k)) := by
  rcases Nat.lt_or_ge k ws.length with h1 | h1
  · exact (take_some ws c k w h h1 hl).mono fun e w' ⟨h2, h3, h4⟩ => ⟨h3, Or.inl ⟨h1, h2, h4⟩⟩
  · obtain rfl : k = ws.length := Nat.le_antisymm h.le h1
    exact (take_none ws c w h).mono fun e w' ⟨h2, h3⟩ => by
      subst h3
      exact ⟨⟨rfl, rfl, rfl, Nat.le_refl _, fun _ _ _ => rfl⟩, Or.inr ⟨rfl, h2, h⟩⟩
/-- the loop's state: the word at hand is number i, or the words have run out -/
def UnL (ws : List Int) (w : World) (c M J : Nat) (x y : Value) (W : World) : Prop :=
  Chg w W c (c + 2) ∧ ((∃ i, i < ws.length ∧ Stp ws M i J ∧ x = .int .i64 (ws.getD i 0) ∧ y = .bool true ∧ Pu W c ws (i + 1)) ∨ (J = ws.length ∧ x = .int .i64 0 ∧ y = .bool false))
/-- what a draw leaves that stops at number J -/
def UnP (ws : List Int) (w : World) (c p J : Nat) (e : Ending) (w' : World) : Prop :=
  Chg w w' c (c + 2) ∧ ((J < ws.length ∧ e = .returned (.tuple #[.int .i64 (ws.getD J 0 % p), .bool true]) ∧ Pu w' c ws (J + 1)) ∨ (J = ws.length ∧ e = .returned (.tuple #[.int .i64 0, .bool false])))
set_option maxRecDepth 100000 in
set_option maxHeartbeats 2000000 in
theorem uniform_p (ws : List Int) (c k p J : Nat) (w : World) (hw : wdB ws = true) (hl : ws.length ≤ 4000) (h : Pu w c ws k) (hp : 2 ≤ p ∧ p ≤ 268435456) (hJ : Stp ws (mulM p) k J) :
    Calls Tryd.prog 121 #[.pointer (some ⟨c + 1, 0, none⟩), .int .i64 p] w fun e w' => UnP ws w c p J e w' := by
  obtain ⟨p1, p2⟩ := hp
  obtain ⟨m, hm, m1⟩ : ∃ m, m = 4294967296 % p ∧ m < p := ⟨_, rfl, Nat.mod_lt _ (by omega)⟩
  have e1 : (4294967296 : Int).tmod (p : Int) = (m : Int) := by rw [hm]; rfl
  have e1' : (4294967296 : Int) % (p : Int) = (m : Int) := by rw [hm]; rfl
  have e2 : (4294967296 : Int) - (m : Int) = (mulM p : Int) := by rw [← mulM_sub, ← hm]; omega
  have p0 : ¬ p = 0 := by omega
  have HJ : Hid (Stp ws (mulM p) k J) := hJ
  have HP : Hid (Pu w c ws k) := h
  have HW : Hid (wdB ws = true) := hw
  have HM : Hid (mulM p ≤ 4294967296) := mulM_le p
  have m2 : 0 < mulM p := mulM_pos p (by omega) p2
  obtain ⟨M, hM⟩ : ∃ M, M = mulM p := ⟨_, rfl⟩
  rw [← hM] at e2 HJ HM m2
  have m3 : M ≤ 4294967296 := HM.out
  have kl : k ≤ ws.length := h.le
  clear hm hJ h hw hM HM
  go_enter Tryd.func121, Tryd.ntmps121
  go_wp2_with fail
  refine (take_any ws c k w HP.out hl).mono ?_
  rintro e w1 ⟨g1, t1⟩
  obtain ⟨x0, y0, rfl, HU⟩ : ∃ x0 y0, e = .returned (.tuple #[x0, y0]) ∧ Hid (UnL ws w c M J x0 y0 w1) := by
    rcases t1.out with ⟨h1, h2, h3⟩ | ⟨h1, h2, h3⟩
    · exact ⟨_, _, h2, g1, Or.inl ⟨k, h1, HJ.out, rfl, rfl, h3⟩⟩
    · exact ⟨_, _, h2, g1, Or.inr ⟨by have := HJ.out.ge; have := HJ.out.le; omega, rfl, rfl⟩⟩
  clear t1 g1 HP HJ kl
  go_wp2_with fail
  go_loopw [7, 8] (fun x y W => Hid (UnL ws w c M J x y W)) (fun x y W => 2 * (ws.length - nextOf W c) + okN y)
  case atStart => exact HU
  case round =>
    clear HU
    obtain ⟨g, ⟨i, hi, hS, rfl, rfl, hPu⟩ | ⟨hJ, rfl, rfl⟩⟩ := hrel.out
    · clear hrel
      have HG : Hid (Chg w wr c (c + 2)) := g
      have HS : Hid (Stp ws M i J) := hS
      have HQ : Hid (Pu wr c ws (i + 1)) := hPu
      have hX := wdB_get HW.out i hi
      obtain ⟨x1, x2⟩ := hX
      clear g hS hPu
      by_cases hx : (M : Int) ≤ ws.getD i 0
      · have d1 : decide ((M : Int) ≤ ws.getD i 0) = true := decide_eq_true hx
        have HS1 : Hid (Stp ws M (i + 1) J) := HS.out.next hi hx
        have HNx : Hid (nextOf wr c = i + 1) := HQ.out.next
        clear HS
        generalize ws.getD i 0 = X at *
        go_wp2_with fail
        refine (take_any ws c (i + 1) wr HQ.out hl).mono ?_
        rintro e w2 ⟨g2, t2⟩
        obtain ⟨x3, y3, rfl, HU, HD⟩ : ∃ x0 y0, e = .returned (.tuple #[x0, y0]) ∧ Hid (UnL ws w c M J x0 y0 w2) ∧ Hid (2 * (ws.length - nextOf w2 c) + okN y0 < 2 * (ws.length - nextOf wr c) + 1) := by
          rcases t2.out with ⟨h1, h2, h3⟩ | ⟨h1, h2, h3⟩
          · refine ⟨_, _, h2, ⟨HG.out.trans g2, Or.inl ⟨i + 1, h1, HS1.out, rfl, rfl, h3⟩⟩, ?_⟩
            show _ < _
            rw [HNx.out, h3.next]
            simp [okN]; omega
          · refine ⟨_, _, h2, ⟨HG.out.trans g2, Or.inr ⟨by have := HS1.out.ge; have := HS1.out.le; omega, rfl, rfl⟩⟩, ?_⟩
            show _ < _
            rw [HNx.out, h3.next]
            simp [okN]
        clear t2 g2
        go_wp2_with fail
        exact ⟨HU, HD.out⟩
      · have d1 : decide ((M : Int) ≤ ws.getD i 0) = false := decide_eq_false hx
        obtain rfl : i = J := HS.out.here (by omega)
        have e3 : (ws.getD i 0).tmod (p : Int) = ws.getD i 0 % (p : Int) := Int.tmod_eq_emod_of_nonneg x1
        obtain ⟨X, hX⟩ : ∃ X, ws.getD i 0 = X := ⟨_, rfl⟩
        rw [hX] at e3 d1 x1 x2 hx ⊢
        have HX : Hid (ws.getD i 0 = X) := hX
        clear hX
        go_wp2_with fail
        go_ret2
        unfold UnP
        rw [HX.out]
        exact ⟨HG.out, Or.inl ⟨hi, rfl, HQ.out⟩⟩
    · have HG : Hid (Chg w wr c (c + 2)) := g
      clear hrel g
      have HJ' : Hid (J = ws.length) := hJ
      clear hJ
      go_wp2_with fail
      go_ret2
      unfold UnP
      exact ⟨HG.out, Or.inr ⟨HJ'.out, rfl⟩⟩
end Go.Proofs.YtinldhoimnbkhaaDoor
/- Proved: contracts of the model's source of words: the next word (word), and a number below a modulus (uniform). -/
namespace Go.Proofs.YtinldhoimnbkhaaDoor
open Go.ChangeShapes Go.WideShapes Go.ChangeAt Go.RowKit
set_option linter.unusedVariables false
set_option linter.unusedSimpArgs false
/-- a source at block q: the words, the number of the next one, and whether there were enough -/
structure Sp (w : World) (q : Nat) (v : Value) (ws : List Int) (k : Nat) (ok : Bool) : Prop where
  le : k ≤ ws.length
  cells : w.heap[q]? = some (.cells #[v, .int .i64 k, .bool ok] 124 (0, 0))
  row : Row w v ws
  low : ∀ b o cap, v = .slice (some ⟨b, o, none⟩) ws.length cap → 0 < ws.length → b < q
theorem Sp.lt {w : World} {q k : Nat} {v : Value} {ws : List Int} {ok : Bool} (h : Sp w q v ws k ok) : q < w.heap.size := (Array.getElem?_eq_some_iff.1 h.cells).1
theorem row_set {w : World} {v : Value} {ws : List Int} (h : Row w v ws) (q j : Nat) (y : Value) (low : ∀ b o cap, v = .slice (some ⟨b, o, none⟩) ws.length cap → 0 < ws.length → b < q) : Row (w.setCell ⟨q, j, none⟩ y) v ws := by
  rcases h with h1 | ⟨b, o, cap, e, hb, h0, hc⟩
  · exact Or.inl h1
  · have := low b o cap e h0
    refine Or.inr ⟨b, o, cap, e, by rw [World.size_setCell]; exact hb, h0, fun i hi => ?_⟩
    rw [← hc i hi]
    exact World.cell?_of_block (heap_setCell_other w ⟨q, j, none⟩ b y (by show b ≠ q; omega))
theorem Sp.step {w : World} {q k : Nat} {v : Value} {ws : List Int} {ok : Bool} (h : Sp w q v ws k ok) (hk : k < ws.length) : Sp (w.setCell ⟨q, 1, none⟩ (.int .i64 ((k : Int) + 1))) q v ws (k + 1) ok := by
  obtain ⟨h1, h2, h3, h4⟩ := h
  exact ⟨by omega, by rw [heap_setCell_same _ _ _ _ _ _ h2]; rfl, row_set h3 q 1 _ h4, h4⟩
theorem Sp.dry {w : World} {q k : Nat} {v : Value} {ws : List Int} {ok : Bool} (h : Sp w q v ws k ok) : Sp (w.setCell ⟨q, 2, none⟩ (.bool false)) q v ws k false := by
  obtain ⟨h1, h2, h3, h4⟩ := h
  exact ⟨h1, by rw [heap_setCell_same _ _ _ _ _ _ h2]; rfl, row_set h3 q 2 _ h4, h4⟩
theorem Sp.c0 {w : World} {q k : Nat} {v : Value} {ws : List Int} {ok : Bool} (h : Sp w q v ws k ok) : w.cell? ⟨q, 0, none⟩ = some v := by rw [cell_of_row _ _ _ _ _ _ h.cells]; rfl
theorem Sp.c1 {w : World} {q k : Nat} {v : Value} {ws : List Int} {ok : Bool} (h : Sp w q v ws k ok) : w.cell? ⟨q, 1, none⟩ = some (.int .i64 k) := by rw [cell_of_row _ _ _ _ _ _ h.cells]; rfl
theorem Sp.c2 {w : World} {q k : Nat} {v : Value} {ws : List Int} {ok : Bool} (h : Sp w q v ws k ok) : w.cell? ⟨q, 2, none⟩ = some (.bool ok) := by rw [cell_of_row _ _ _ _ _ _ h.cells]; rfl
theorem Sp.fr {w : World} {q k : Nat} {v : Value} {ws : List Int} {ok : Bool} (h : Sp w q v ws k ok) (j : Nat) : w.frozen? ⟨q, j, none⟩ = false := frozen_of_row _ _ _ _ _ h.cells
/-- what word leaves -/
def WoP (ws : List Int) (w : World) (q : Nat) (v : Value) (k : Nat) (ok : Bool) (e : Ending) (w' : World) : Prop :=
  Chg w w' q (q + 1) ∧ ((k < ws.length ∧ e = .returned (.int .i64 (ws.getD k 0)) ∧ Sp w' q v ws (k + 1) ok) ∨ (k = ws.length ∧ e = .returned (.int .i64 0) ∧ Sp w' q v ws k false))
theorem Sp.drew {w : World} {q k : Nat} {v : Value} {ws : List Int} {ok : Bool} (h : Sp w q v ws k ok) (n : Nat) : Sp (w.drewN n) q v ws k ok :=
  ⟨h.le, h.cells, h.row.old ((Old.refl w).drewN n), h.low⟩
theorem chg_drew (w : World) (n lo hi : Nat) : Chg w (w.drewN n) lo hi := ((Old.refl w).drewN n).toChg lo hi
theorem Sp.word {w : World} {q k : Nat} {a : Option Addr} {cap : Nat} {ws : List Int} {ok : Bool} (h : Sp w q (.slice a ws.length cap) ws k ok) (j : Nat) (hj : j < ws.length) : ∃ b o, a = some ⟨b, o, none⟩ ∧ w.cell? ⟨b, o + j, none⟩ = some (.int .i64 (ws.getD j 0)) := by
  rcases h.row with ⟨a', cap', e, e2⟩ | ⟨b, o, cap', e, hb, h0, hc⟩
  · rw [e2] at hj; simp at hj
  · injection e with e1
    exact ⟨b, o, e1, hc j hj⟩
set_option maxRecDepth 100000 in
set_option maxHeartbeats 2000000 in
theorem word_some (ws : List Int) (q k : Nat) (v : Value) (ok : Bool) (w : World) (hl : ws.length ≤ 4000) (h : Sp w q v ws k ok) (h1 : k < ws.length) :
    Calls Tryd.prog 140 #[.pointer (some ⟨q, 0, none⟩)] w fun e w' => WoP ws w q v k ok e w' := by
  have c0 := h.c0
  have c1 := h.c1
  have HS : Hid (Sp w q v ws k ok) := h
  obtain ⟨a, cap, rfl⟩ := h.row.slice
  obtain ⟨b, o, rfl, _⟩ := h.word k h1
  have d1 : decide ((ws.length : Int) ≤ (k : Int)) = false := decide_eq_false (by omega)
  have HK : Hid (k < ws.length) := h1
  clear h
  go_enter Tryd.func140, Tryd.ntmps140
  go_wp2_with fail
  go_quiet (fail)
  have HS1 : Hid (Sp (w.drewN nq) q (.slice (some ⟨b, o, none⟩) ws.length cap) ws k ok) := HS.out.drew nq
  have HG1 : Hid (Chg w (w.drewN nq) q (q + 1)) := chg_drew w nq q (q + 1)
  clear c0 c1 HS
  generalize w.drewN nq = w1 at *
  have c0 := HS1.out.c0
  have c1 := HS1.out.c1
  have f1 := HS1.out.fr 1
  have s1 := HS1.out.step h1
  have c3 := s1.c0
  have c4 : (w1.setCell ⟨q, 1, none⟩ (.int .i64 ((k : Int) + 1))).cell? ⟨q, 1, none⟩ = some (.int .i64 ((k : Int) + 1)) := s1.c1
  have e4 : (k : Int) + 1 - 1 = k := by omega
  have HS2 : Hid (Sp (w1.setCell ⟨q, 1, none⟩ (.int .i64 ((k : Int) + 1))) q (.slice (some ⟨b, o, none⟩) ws.length cap) ws (k + 1) ok) := s1
  obtain ⟨b', o', hb', hc⟩ := s1.word k h1
  injection hb' with hb'
  injection hb' with hb1 hb2
  subst hb1 hb2
  obtain ⟨X, hX⟩ : ∃ X, ws.getD k 0 = X := ⟨_, rfl⟩
  rw [hX] at hc
  have HX : Hid (ws.getD k 0 = X) := hX
  clear s1 HS1 hX
  go_wp2_with fail
  go_quiet (fail)
  go_wp2_with fail
  go_ret
  unfold WoP
  rw [HX.out]
  exact ⟨(HG1.out.trans (chg_setCell _ q 1 _)).trans (chg_drew _ _ _ _), Or.inl ⟨HK.out, rfl, HS2.out.drew _⟩⟩
set_option maxRecDepth 100000 in
set_option maxHeartbeats 2000000 in
theorem word_none (ws : List Int) (q : Nat) (v : Value) (ok : Bool) (w : World) (hl : ws.length ≤ 4000) (h : Sp w q v ws ws.length ok) :
    Calls Tryd.prog 140 #[.pointer (some ⟨q, 0, none⟩)] w fun e w' => WoP ws w q v ws.length ok e w' := by
  have c0 := h.c0
  have c1 := h.c1
  have HS : Hid (Sp w q v ws ws.length ok) := h
  obtain ⟨a, cap, rfl⟩ := h.row.slice
  have d1 : decide ((ws.length : Int) ≤ (ws.length : Int)) = true := decide_eq_true (by omega)
  clear h
  go_enter Tryd.func140, Tryd.ntmps140
  go_wp2_with fail
  go_quiet (fail)
  have HS1 : Hid (Sp (w.drewN nq) q (.slice a ws.length cap) ws ws.length ok) := HS.out.drew nq
  have HG1 : Hid (Chg w (w.drewN nq) q (q + 1)) := chg_drew w nq q (q + 1)
  clear c0 c1 HS
  generalize w.drewN nq = w1 at *
  have c2 := HS1.out.c2
  have f2 := HS1.out.fr 2
  have HS2 : Hid (Sp (w1.setCell ⟨q, 2, none⟩ (.bool false)) q (.slice a ws.length cap) ws ws.length false) := HS1.out.dry
  clear HS1
  go_wp2_with fail
  go_ret
  unfold WoP
  exact ⟨HG1.out.trans (chg_setCell _ q 2 _), Or.inr ⟨rfl, rfl, HS2.out⟩⟩
theorem word_any (ws : List Int) (q k : Nat) (v : Value) (ok : Bool) (w : World) (hl : ws.length ≤ 4000) (h : Sp w q v ws k ok) :
    Calls Tryd.prog 140 #[.pointer (some ⟨q, 0, none⟩)] w fun e w' => WoP ws w q v k ok e w' := by
  rcases Nat.lt_or_ge k ws.length with h1 | h1
  · exact word_some ws q k v ok w hl h h1
  · obtain rfl : k = ws.length := Nat.le_antisymm h.le h1
    exact word_none ws q v ok w hl h
/-- the number of the next word, and whether there were enough, as they lie in memory -/
def restOf (W : World) (q n : Nat) : Nat := (match W.cell? ⟨q, 1, none⟩ with
  | some (.int _ k) => 2 * (n - k.toNat)
  | _ => 0) + (match W.cell? ⟨q, 2, none⟩ with
  | some (.bool true) => 1
  | _ => 0)
theorem Sp.rest {w : World} {q k : Nat} {v : Value} {ws : List Int} {ok : Bool} (h : Sp w q v ws k ok) : restOf w q ws.length = 2 * (ws.length - k) + (if ok then 1 else 0) := by
  unfold restOf
  rw [h.c1, h.c2]
  cases ok <;> simp
/-- what the model's draw leaves that stops at number J -/
def UnM (ws : List Int) (w : World) (q : Nat) (v : Value) (p J : Nat) (e : Ending) (w' : World) : Prop :=
  Chg w w' q (q + 1) ∧ ((J < ws.length ∧ e = .returned (.int .i64 (ws.getD J 0 % p)) ∧ Sp w' q v ws (J + 1) true) ∨ (J = ws.length ∧ e = .returned (.int .i64 0) ∧ Sp w' q v ws J false))
set_option maxRecDepth 100000 in
set_option maxHeartbeats 2000000 in
theorem uniform_m (ws : List Int) (q k p J : Nat) (v : Value) (w : World) (hw : wdB ws = true) (hl : ws.length ≤ 4000) (h : Sp w q v ws k true) (hp : 2 ≤ p ∧ p ≤ 268435456) (hJ : Stp ws (mulM p) k J) :
    Calls Tryd.prog 116 #[.pointer (some ⟨q, 0, none⟩), .int .i64 p] w fun e w' => UnM ws w q v p J e w' := by
  obtain ⟨p1, p2⟩ := hp
  obtain ⟨m, hm, m1⟩ : ∃ m, m = 4294967296 / p ∧ m ≤ 4294967296 := ⟨_, rfl, Nat.div_le_self _ _⟩
  have e1 : (4294967296 : Int).tdiv (p : Int) = (m : Int) := by rw [hm]; rfl
  have e1' : (4294967296 : Int) / (p : Int) = (m : Int) := by rw [hm]; rfl
  have e2 : (m : Int) * (p : Int) = (mulM p : Int) := by rw [hm, mulM]; rfl
  have p0 : ¬ p = 0 := by omega
  have HJ : Hid (Stp ws (mulM p) k J) := hJ
  have HP : Hid (Sp w q v ws k true) := h
  have HW : Hid (wdB ws = true) := hw
  have m2 : 0 < mulM p := mulM_pos p (by omega) p2
  have m3 : mulM p ≤ 4294967296 := mulM_le p
  obtain ⟨M, hM⟩ : ∃ M, M = mulM p := ⟨_, rfl⟩
  rw [← hM] at e2 HJ m2 m3
  clear hm hJ h hw hM
  go_enter Tryd.func116, Tryd.ntmps116
  go_wp2_with fail
  go_loopw [5] (fun x W => Hid (Chg w W q (q + 1) ∧ ((∃ i, Stp ws M i J ∧ Sp W q v ws i true) ∨ (J = ws.length ∧ Sp W q v ws J false)))) (fun x W => restOf W q ws.length)
  case atStart => exact ⟨⟨rfl, rfl, rfl, Nat.le_refl _, fun _ _ _ => rfl⟩, Or.inl ⟨k, HJ.out, HP.out⟩⟩
  case round =>
    clear HJ HP
    obtain ⟨g, ⟨i, hS, hPu⟩ | ⟨hJ, hPu⟩⟩ := hrel.out
    · clear hrel
      have HG : Hid (Chg w wr q (q + 1)) := g
      have HS : Hid (Stp ws M i J) := hS
      have HQ : Hid (Sp wr q v ws i true) := hPu
      have HR : Hid (restOf wr q ws.length = 2 * (ws.length - i) + 1) := hPu.rest
      have c2 := hPu.c2
      clear g hS hPu
      go_wp2_with fail
      refine (word_any ws q i v true wr hl HQ.out).mono ?_
      rintro e w2 ⟨g2, ⟨hi, rfl, s2⟩ | ⟨hi, rfl, s2⟩⟩
      · have HG2 : Hid (Chg w w2 q (q + 1)) := HG.out.trans g2
        have HS2 : Hid (Sp w2 q v ws (i + 1) true) := s2
        have HR2 : Hid (restOf w2 q ws.length = 2 * (ws.length - (i + 1)) + 1) := s2.rest
        have hI : i < ws.length := hi
        obtain ⟨x1, x2⟩ := wdB_get HW.out i hi
        clear g2 s2 HQ HG c2
        by_cases hx : (M : Int) ≤ ws.getD i 0
        · have d1 : decide (ws.getD i 0 < (M : Int)) = false := decide_eq_false (by omega)
          have HS3 : Hid (Stp ws M (i + 1) J) := HS.out.next hi hx
          generalize ws.getD i 0 = X at *
          go_wp2_with fail
          refine ⟨⟨HG2.out, Or.inl ⟨i + 1, HS3.out, HS2.out⟩⟩, ?_⟩
          rw [HR2.out, HR.out]
          omega
        · have d1 : decide (ws.getD i 0 < (M : Int)) = true := decide_eq_true (by omega)
          have HK : Hid (i = J) := HS.out.here (by omega)
          have e3 : (ws.getD i 0).tmod (p : Int) = ws.getD i 0 % (p : Int) := Int.tmod_eq_emod_of_nonneg x1
          obtain ⟨X, hX⟩ : ∃ X, ws.getD i 0 = X := ⟨_, rfl⟩
          rw [hX] at e3 d1 x1 x2 hx ⊢
          have HX : Hid (ws.getD i 0 = X) := hX
          clear hX
          go_wp2_with fail
          go_ret
          unfold UnM
          rw [← HK.out, HX.out]
          exact ⟨HG2.out, Or.inl ⟨hI, rfl, HS2.out⟩⟩
      · have HG2 : Hid (Chg w w2 q (q + 1)) := HG.out.trans g2
        have HS2 : Hid (Sp w2 q v ws i false) := s2
        have HK : Hid (i = J ∧ J = ws.length) := by have := HS.out.ge; have := HS.out.le; exact ⟨by omega, by omega⟩
        clear g2 s2 HQ HG c2 hi
        have d1 : decide ((0 : Int) < (M : Int)) = true := decide_eq_true (by omega)
        go_wp2_with fail
        go_ret
        unfold UnM
        rw [← HK.out.1]
        exact ⟨HG2.out, Or.inr ⟨HK.out.1.trans HK.out.2, rfl, HS2.out⟩⟩
    · have HG : Hid (Chg w wr q (q + 1)) := g
      have HQ : Hid (Sp wr q v ws J false) := hPu
      have c2 := hPu.c2
      have HK : Hid (J = ws.length) := hJ
      clear hrel g hPu hJ
      go_wp2_with fail
      go_ret
      unfold UnM
      exact ⟨HG.out, Or.inr ⟨HK.out, rfl, HQ.out⟩⟩
end Go.Proofs.YtinldhoimnbkhaaDoor
/- Proved: contracts of the model's rows of draws (uniforms, ternaries, noises): what so many draws one behind the other leave. -/
namespace Go.Proofs.YtinldhoimnbkhaaDoor
open Go.ChangeShapes Go.WideShapes Go.ChangeAt Go.RowKit
set_option linter.unusedVariables false
set_option linter.unusedSimpArgs false
/-- so many draws one behind the other: the numbers, and where they end; none where one of them lacks words -/
def drP (D : Nat → Option (Int × Nat)) (k0 : Nat) : Nat → Option (List Int × Nat)
  | 0 => some ([], k0)
  | n + 1 => match drP D k0 n with
    | none => none
    | some (l, k) => match D k with
      | none => none
      | some (x, k') => some (l ++ [x], k')
theorem drP_succ {D : Nat → Option (Int × Nat)} {k0 n k k' : Nat} {l : List Int} {x : Int} (h : drP D k0 n = some (l, k)) (hd : D k = some (x, k')) : drP D k0 (n + 1) = some (l ++ [x], k') := by
  simp [drP, h, hd]
theorem drP_dry {D : Nat → Option (Int × Nat)} {k0 n k : Nat} {l : List Int} (h : drP D k0 n = some (l, k)) (hd : D k = none) : drP D k0 (n + 1) = none := by
  simp [drP, h, hd]
theorem drP_none {D : Nat → Option (Int × Nat)} {k0 j : Nat} (h : drP D k0 j = none) : ∀ m, drP D k0 (j + m) = none
  | 0 => h
  | m + 1 => by
    show drP D k0 (j + m + 1) = none
    simp [drP, drP_none h m]
theorem drP_len {D : Nat → Option (Int × Nat)} {k0 : Nat} : ∀ n l k, drP D k0 n = some (l, k) → l.length = n
  | 0, l, k, h => by simp [drP] at h; rw [h.1]; rfl
  | n + 1, l, k, h => by
    simp only [drP] at h
    cases e : drP D k0 n with
    | none => rw [e] at h; simp at h
    | some p =>
      obtain ⟨l', k'⟩ := p
      rw [e] at h
      simp only at h
      cases e2 : D k' with
      | none => rw [e2] at h; simp at h
      | some p2 =>
        rw [e2] at h
        simp at h
        rw [← h.1, List.length_append, drP_len n l' k' e]
        rfl
theorem oneC (w : World) (x : Value) (t : TypeId) : ∀ j u, [x][j]? = some u → (w.alloc (.cells #[x] t)).cell? ((⟨w.heap.size, 0, none⟩ : Addr).add j) = some u := by
  intro j u h
  match j, h with
  | 0, h =>
    have : x = u := by simpa using h
    subst this
    exact cell_at w _ _ _ _ rfl
  | j + 1, h => simp at h
theorem oneO (x : Int) : ∀ u ∈ [Value.int .i64 x], u.oneCell' = true := by simp [Value.oneCell']
theorem Own.snocZ {w : World} {base : Nat} {v : Value} {xs : List Int} {y : Int} (h : w.ownsRow base 3 1 v (xs.length + 1) (xs.map (Value.int .i64) ++ [.int .i64 y])) : Own w base v (xs ++ [y]) := by
  unfold Own
  rw [List.length_append, List.map_append]
  exact h
theorem Chg.alloc {a b : World} {lo hi : Nat} (h : Chg a b lo hi) (o : Obj) : Chg a (b.alloc o) lo hi := h.trans (((Old.refl b).alloc o).toChg lo hi)
theorem Chg.refl (a : World) (lo hi : Nat) : Chg a a lo hi := (Old.refl a).toChg lo hi
theorem Chg.grown {a b c : World} {lo hi : Nat} {ob : Option Nat} (h : Chg a b lo hi) (g : b.grownBy c ob) (hk : ∀ k, ob = some k → a.heap.size ≤ k) : Chg a c lo hi :=
  ⟨g.os.trans h.os, g.tape.trans h.tape, g.output.trans h.output, Nat.le_trans h.size g.size, fun b hb ho => (g.block b (Nat.lt_of_lt_of_le hb h.size) (fun e => by have := hk b e.symm; omega)).trans (h.block b hb ho)⟩
theorem Sp.kept {w w' : World} {q k : Nat} {v : Value} {ws : List Int} {ok : Bool} (h : Sp w q v ws k ok) (hs : w.heap.size ≤ w'.heap.size) (hk : ∀ b, b ≤ q → w'.heap[b]? = w.heap[b]?) : Sp w' q v ws k ok := by
  obtain ⟨h1, h2, h3, h4⟩ := h
  refine ⟨h1, (hk q (Nat.le_refl _)).trans h2, ?_, h4⟩
  rcases h3 with h5 | ⟨b, o, cap, e, hb, h0, hc⟩
  · exact Or.inl h5
  · have := h4 b o cap e h0
    exact Or.inr ⟨b, o, cap, e, Nat.lt_of_lt_of_le hb hs, h0, fun i hi => (World.cell?_of_block (hk b (by omega))).trans (hc i hi)⟩
theorem Sp.alloc {w : World} {q k : Nat} {v : Value} {ws : List Int} {ok : Bool} (h : Sp w q v ws k ok) (o : Obj) : Sp (w.alloc o) q v ws k ok :=
  h.kept ((Old.refl w).alloc o).size (fun b hb => ((Old.refl w).alloc o).block b (Nat.lt_of_le_of_lt hb h.lt))
theorem Sp.grown {w w' : World} {q k : Nat} {v : Value} {ws : List Int} {ok : Bool} {ob : Option Nat} (h : Sp w q v ws k ok) (g : w.grownBy w' ob) (hk : ∀ j, ob = some j → q < j) : Sp w' q v ws k ok :=
  h.kept g.size (fun b hb => g.block b (Nat.lt_of_le_of_lt hb h.lt) (fun e => by have := hk b e.symm; omega))
/-- what one draw of the model's leaves -/
def DrM (D : Nat → Option (Int × Nat)) (ws : List Int) (w : World) (q : Nat) (v : Value) (k : Nat) (e : Ending) (w' : World) : Prop :=
  Chg w w' q (q + 1) ∧ ((∃ x k', D k = some (x, k') ∧ e = .returned (.int .i64 x) ∧ Sp w' q v ws k' true) ∨ (D k = none ∧ (∃ y, e = .returned (.int .i64 y)) ∧ ∃ k', Sp w' q v ws k' false))
/-- what a row of draws of the model's leaves -/
def RwM (R : Option (List Int × Nat)) (ws : List Int) (w : World) (q : Nat) (v : Value) (e : Ending) (w' : World) : Prop :=
  Chg w w' q (q + 1) ∧ ((∃ l k v', R = some (l, k) ∧ e = .returned v' ∧ Own w' w.heap.size v' l ∧ Sp w' q v ws k true) ∨ (R = none ∧ (∃ a m c, e = .returned (.slice a m c)) ∧ ∃ k, Sp w' q v ws k false))
/-- the loop's state -/
def LpM (D : Nat → Option (Int × Nat)) (ws : List Int) (w : World) (q : Nat) (v : Value) (k0 n0 : Nat) (lv nv : Value) (W : World) : Prop :=
  Chg w W q (q + 1) ∧ ∃ j, j ≤ n0 ∧ nv = .int .i64 ((n0 : Int) - j) ∧ ((∃ l k a c, drP D k0 j = some (l, k) ∧ lv = .slice a j c ∧ Own W w.heap.size (.slice a j c) l ∧ Sp W q v ws k true) ∨ (drP D k0 n0 = none ∧ (∃ a m c cs, lv = .slice a m c ∧ m ≤ n0 + 1 ∧ W.ownsRow w.heap.size 3 1 (.slice a m c) m cs) ∧ ∃ k, Sp W q v ws k false))
theorem own_slice {w : World} {base n : Nat} {v : Value} {cs : List Value} (h : w.ownsRow base 3 1 v n cs) : ∃ a c, v = .slice a n c := by
  rcases h.2 with ⟨h1, h2⟩ | ⟨g, cap, cur, h1, _⟩
  · exact ⟨none, 0, by rw [h1, h2]⟩
  · exact ⟨_, cap, h1⟩
theorem ownsRow_alloc {w : World} {base n : Nat} {v : Value} {cs : List Value} (h : w.ownsRow base 3 1 v n cs) (o : Obj) : (w.alloc o).ownsRow base 3 1 v n cs := by
  refine ⟨h.1, ?_⟩
  rcases h.2 with hn | ⟨p, cap, cur, rfl, hb, hgg, rest⟩
  · exact .inl hn
  · refine .inr ⟨p, cap, cur, rfl, hb, ?_, rest⟩
    rw [((Old.refl w).alloc o).block p (Array.getElem?_eq_some_iff.1 hgg).1]
    exact hgg
set_option maxRecDepth 100000 in
set_option maxHeartbeats 4000000 in
theorem ternaries_m (D : Nat → Option (Int × Nat)) (ws : List Int) (q k0 n0 : Nat) (v : Value) (w : World) (hn : n0 ≤ 64) (h : Sp w q v ws k0 true)
    (hD : ∀ k W, Sp W q v ws k true → Calls Tryd.prog 101 #[.pointer (some ⟨q, 0, none⟩)] W fun e w' => DrM D ws W q v k e w') :
    Calls Tryd.prog 74 #[.pointer (some ⟨q, 0, none⟩), .int .i64 n0] w fun e w' => RwM (drP D k0 n0) ws w q v e w' := by
  obtain ⟨i0, hi, hz0, hz1, hz2⟩ := info_parts Tryd.infoInt
  have HD : Hid (∀ k W, Sp W q v ws k true → Calls Tryd.prog 101 #[.pointer (some ⟨q, 0, none⟩)] W fun e w' => DrM D ws W q v k e w') := hD
  have HP : Hid (Sp w q v ws k0 true) := h
  have HQ : Hid (q < w.heap.size) := h.lt
  clear h hD
  go_enter Tryd.func74, Tryd.ntmps74
  go_wp2_with fail
  go_loopw [1, 5] (fun nv lv W => Hid (LpM D ws w q v k0 n0 lv nv W)) (fun nv _ _ => (intOf nv).toNat)
  case atStart => exact ⟨Chg.refl _ _ _, 0, by omega, by simp, Or.inl ⟨[], k0, none, 0, rfl, rfl, ⟨rfl, .inl ⟨rfl, rfl⟩⟩, HP.out⟩⟩
  case round =>
    obtain ⟨g, j, hj, rfl, ⟨l, k, a, c, hr, rfl, ho, hs⟩ | ⟨hr, ⟨a, m, c, cs, rfl, hm, ho⟩, k, hs⟩⟩ := hrel.out
    · have HG : Hid (Chg w wr q (q + 1)) := g
      have HR : Hid (drP D k0 j = some (l, k)) := hr
      have hl : l.length = j := drP_len j l k hr
      have HO : Hid (wr.ownsRow w.heap.size 3 1 (.slice a j c) j (l.map (Value.int .i64))) := by have := ho; unfold Own at this; rw [hl] at this; exact this
      have HS : Hid (Sp wr q v ws k true) := hs
      have c2 := hs.c2
      have HL : Hid (l.length = j) := hl
      clear hrel g hr ho hs hl
      by_cases hlt : j < n0
      · obtain ⟨d, hd⟩ : ∃ d, n0 = j + 1 + d := ⟨n0 - j - 1, by omega⟩
        have HDD : Hid (n0 = j + 1 + d) := hd
        have en : (n0 : Int) - (j : Int) = ((d + 1 : Nat) : Int) := by omega
        have ld : d ≤ 64 := by omega
        have lj : j ≤ 64 := by omega
        rw [en]
        have dl : decide ((0 : Int) < ((d + 1 : Nat) : Int)) = true := decide_eq_true (by omega)
        have es : ((d + 1 : Nat) : Int) - 1 = (d : Int) := by omega
        clear en hd hlt hj
        generalize d + 1 = d1 at *
        go_wp2_with fail
        refine (HD.out k wr HS.out).mono ?_
        rintro e w1 ⟨g1, t1⟩
        have HO1 : Hid (w1.ownsRow w.heap.size 3 1 (.slice a j c) j (l.map (Value.int .i64))) := by
          have hx : Own wr w.heap.size (.slice a j c) l := by unfold Own; rw [HL.out]; exact HO.out
          have := hx.chg g1 (fun p hp => Or.inr (by have := (hx.lt p hp).1; have := HQ.out; omega))
          unfold Own at this
          rw [HL.out] at this
          exact this
        have HG1 : Hid (Chg w w1 q (q + 1)) := HG.out.trans g1
        obtain ⟨x, rfl, HX⟩ : ∃ x, e = .returned (.int .i64 x) ∧ Hid ((∃ k', D k = some (x, k') ∧ Sp w1 q v ws k' true) ∨ (D k = none ∧ ∃ k', Sp w1 q v ws k' false)) := by
          rcases t1 with ⟨x, k', h1, h2, h3⟩ | ⟨h1, ⟨y, h2⟩, h3⟩
          · exact ⟨x, h2, Or.inl ⟨k', h1, h3⟩⟩
          · exact ⟨y, h2, Or.inr ⟨h1, h3⟩⟩
        have hz := HG1.out.size
        clear t1 g1 HS HO HG c2
        go_wp2_with (at_builtin; refine wpList_append_own _ rfl _ _ 22 rfl w.heap.size 3 i0 (.int .i64 0) 1 8 Tryd.underlying22 hi hz0 hz1 hz2 rfl (by decide) _ _ _ rfl (ownsRow_alloc HO1.out (.cells #[.int .i64 x] 3)) ⟨w1.heap.size, 0, none⟩ 1 1 [.int .i64 x] rfl rfl (oneC _ _ _) (oneO _) (by unfold maxLen; omega) (by omega) (by simp; omega) ?_; intro v5 w5 o5 g5 x5; obtain ⟨a5, c5, rfl⟩ := own_slice o5; have HO5 : Hid (w5.ownsRow w.heap.size 3 1 (.slice a5 (j + 1) c5) (j + 1) (l.map (Value.int .i64) ++ [.int .i64 x])) := o5; have HG5 : Hid (Chg w w5 q (q + 1)) := (HG1.out.alloc _).grown g5 (fun p hp => (HO1.out.lt p hp).1); have HX5 : Hid ((∃ k', D k = some (x, k') ∧ Sp w5 q v ws k' true) ∨ (D k = none ∧ ∃ k', Sp w5 q v ws k' false)) := (by
          have hq : ∀ p, (Value.slice a j c).ownBlock = some p → q < p := fun p hp => by have := (HO1.out.lt p hp).1; have := HQ.out; omega
          rcases HX.out with ⟨k', h1, h2⟩ | ⟨h1, k', h2⟩
          · exact Or.inl ⟨k', h1, (h2.alloc _).grown g5 hq⟩
          · exact Or.inr ⟨h1, k', (h2.alloc _).grown g5 hq⟩); clear o5 g5 x5)
        refine ⟨⟨HG5.out, j + 1, by have := HDD.out; omega, by have := HDD.out; congr 1; omega, ?_⟩, by simp [intOf]; omega⟩
        rcases HX5.out with ⟨k', h1, h2⟩ | ⟨h1, k', h2⟩
        · refine Or.inl ⟨l ++ [x], k', a5, c5, drP_succ HR.out h1, rfl, ?_, h2⟩
          have := HO5.out
          rw [← HL.out] at this
          have h7 := Own.snocZ this
          rw [HL.out] at h7
          exact h7
        · refine Or.inr ⟨?_, ⟨a5, j + 1, c5, _, rfl, by have := HDD.out; omega, HO5.out⟩, k', h2⟩
          rw [HDD.out]
          exact drP_none (drP_dry HR.out h1) d
      · obtain rfl : j = n0 := by omega
        have en : (j : Int) - (j : Int) = 0 := by omega
        rw [en]
        go_wp2_with fail
        go_ret
        unfold RwM
        exact ⟨HG.out, Or.inl ⟨l, k, _, HR.out, rfl, by unfold Own; rw [HL.out]; exact HO.out, HS.out⟩⟩
    · have HG : Hid (Chg w wr q (q + 1)) := g
      have HR : Hid (drP D k0 n0 = none) := hr
      have HS : Hid (Sp wr q v ws k false) := hs
      have c2 := hs.c2
      obtain ⟨d, hd⟩ : ∃ d, (n0 : Int) - (j : Int) = (d : Int) := ⟨n0 - j, by omega⟩
      rw [hd]
      clear hrel g hr hs hd ho
      by_cases hlt : 0 < d
      · have dl : decide ((0 : Int) < (d : Int)) = true := by simp; omega
        go_wp2_with fail
        go_ret
        unfold RwM
        exact ⟨HG.out, Or.inr ⟨HR.out, ⟨_, _, _, rfl⟩, k, HS.out⟩⟩
      · have dl : decide ((0 : Int) < (d : Int)) = false := by simp; omega
        go_wp2_with fail
        go_ret
        unfold RwM
        exact ⟨HG.out, Or.inr ⟨HR.out, ⟨_, _, _, rfl⟩, k, HS.out⟩⟩
end Go.Proofs.YtinldhoimnbkhaaDoor
/- Proved: contracts of the program's drawRow, with uniform and with noise: what so many draws one behind the other leave. -/
namespace Go.Proofs.YtinldhoimnbkhaaDoor
open Go.ChangeShapes Go.WideShapes Go.ChangeAt Go.RowKit
set_option linter.unusedVariables false
set_option linter.unusedSimpArgs false
/-- what one draw of the program's leaves -/
def DrP (D : Nat → Option (Int × Nat)) (ws : List Int) (w : World) (c k : Nat) (e : Ending) (w' : World) : Prop :=
  Chg w w' c (c + 2) ∧ ((∃ x k', D k = some (x, k') ∧ e = .returned (.tuple #[.int .i64 x, .bool true]) ∧ Pu w' c ws k') ∨ (D k = none ∧ ∃ y, e = .returned (.tuple #[.int .i64 y, .bool false])))
/-- what a row of draws of the program's leaves -/
def RwP (R : Option (List Int × Nat)) (w : World) (c : Nat) (e : Ending) (w' : World) : Prop :=
  Chg w w' c (c + 2) ∧ ((∃ l k v', R = some (l, k) ∧ e = .returned (.tuple #[v', .int .i64 (k : Nat), .bool true]) ∧ Own w' w.heap.size v' l) ∨ (R = none ∧ e = .returned (.tuple #[.slice none 0 0, .int .i64 0, .bool false])))
/-- j numbers, noughts behind -/
def zfill (l : List Int) (n : Nat) : List Int := l ++ List.replicate (n - l.length) 0
theorem zfill_len (l : List Int) (n : Nat) (h : l.length ≤ n) : (zfill l n).length = n := by simp [zfill]; omega
theorem zfill_set (l : List Int) (n : Nat) (x : Int) (h : l.length < n) : (zfill l n).set l.length x = zfill (l ++ [x]) n := by
  unfold zfill
  rw [show n - l.length = (n - (l ++ [x]).length) + 1 by simp; omega, List.replicate_succ, List.set_append_right _ _ (Nat.le_refl _), Nat.sub_self, List.set_cons_zero, List.append_assoc]
  rfl
theorem zfill_all (l : List Int) (n : Nat) (h : l.length = n) : zfill l n = l := by simp [zfill, h]
set_option maxRecDepth 100000 in
set_option maxHeartbeats 4000000 in
theorem drawRow_uniform (D : Nat → Option (Int × Nat)) (ws : List Int) (c k0 n0 b : Nat) (w : World) (hn : n0 ≤ 64) (h : Pu w c ws k0)
    (hD : ∀ k W, Pu W c ws k → Calls Tryd.prog 121 #[.pointer (some ⟨c + 1, 0, none⟩), .int .i64 b] W fun e w' => DrP D ws W c k e w') :
    Calls Tryd.prog 119 #[.pointer (some ⟨c + 1, 0, none⟩), .func (.func 121) #[] #[], .int .i64 b, .int .i64 n0] w fun e w' => RwP (drP D k0 n0) w c e w' := by
  obtain ⟨i0, hi, hz0, hz1, hz2⟩ := info_parts Tryd.infoInt
  have HD : Hid (∀ k W, Pu W c ws k → Calls Tryd.prog 121 #[.pointer (some ⟨c + 1, 0, none⟩), .int .i64 b] W fun e w' => DrP D ws W c k e w') := hD
  have HP : Hid (Pu w c ws k0) := h
  have HQ : Hid (c + 1 < w.heap.size) := h.lt
  clear h hD
  go_enter Tryd.func119, Tryd.ntmps119
  go_wp2_with (at_make; refine wpList_make_full _ rfl _ _ 22 rfl w.heap.size 3 i0 (.int .i64 0) 1 Tryd.underlying22 hi hz0 hz1 .i64 .i64 _ _ n0 rfl rfl rfl rfl (by rw [hz2]; omega) (by unfold maxLen; omega) (Nat.le_refl _) ?_; intro w1 hown hgrow)
  rw [made_ints, show List.replicate n0 (0 : Int) = zfill [] n0 by simp [zfill]] at hown
  have HO : Hid (w1.ownsRow w.heap.size 3 1 (.slice (some ⟨w.heap.size, 0, none⟩) n0 n0) n0 ((zfill [] n0).map (Value.int .i64))) := hown
  have HG0 : Hid (Old w w1) := Below.grown (Below.refl _ _) hgrow (Nat.le_refl _) (fun _ h => by cases h)
  clear hown hgrow
  go_loopw [19] (fun i W => ∃ j : Nat, j ≤ n0 ∧ i = .int .i64 j ∧ Hid (Chg w W c (c + 2)) ∧ ∃ l k, Hid (drP D k0 j = some (l, k)) ∧ Hid (W.ownsRow w.heap.size 3 1 (.slice (some ⟨w.heap.size, 0, none⟩) n0 n0) n0 ((zfill l n0).map (Value.int .i64))) ∧ Hid (Pu W c ws k)) (fun i _ => n0 - (intOf i).toNat)
  case atStart => exact ⟨0, by omega, rfl, HG0.out.toChg _ _, [], k0, rfl, HO, HP.out.old HG0.out⟩
  case round =>
    obtain ⟨j, hj, rfl, HG, l, k, HR, HO1, HP1⟩ := hrel
    clear HO HG0 HP
    have HL : Hid (l.length = j) := drP_len j l k HR.out
    by_cases hlt : j < n0
    · have dl : decide ((j : Int) < (n0 : Int)) = true := by simp; omega
      go_wp2_with fail
      refine (HD.out k wr HP1.out).mono ?_
      rintro e w1 ⟨g1, ⟨x, k', h1, rfl, h3⟩ | ⟨h1, y, rfl⟩⟩
      · have HR1 : Hid (drP D k0 (j + 1) = some (l ++ [x], k')) := drP_succ HR.out h1
        have HG1 : Hid (Chg w w1 c (c + 2)) := HG.out.trans g1
        have zl : (zfill l n0).length = n0 := zfill_len l n0 (by rw [HL.out]; omega)
        have HO2 : Hid (w1.ownsRow w.heap.size 3 1 (.slice (some ⟨w.heap.size, 0, none⟩) n0 n0) n0 ((zfill l n0).map (Value.int .i64))) := by
          have hx : Own wr w.heap.size (.slice (some ⟨w.heap.size, 0, none⟩) n0 n0) (zfill l n0) := by unfold Own; rw [zl]; exact HO1.out
          have := hx.chg g1 (fun p hp => Or.inr (by have := (hx.lt p hp).1; have := HQ.out; omega))
          unfold Own at this
          rw [zl] at this
          exact this
        have HP2 : Hid (Pu w1 c ws k') := h3
        have c2 : w1.cell? ⟨w.heap.size, j, none⟩ = some (.int .i64 ((zfill l n0).getD j 0)) := by
          rw [World.ownsRow.cellAt HO2.out j (by omega)]
          simp [List.getD, zl, hlt]
        have c3 : w1.frozen? ⟨w.heap.size, j, none⟩ = false := World.ownsRow.frozenAt HO2.out j
        have HS : Hid ((w1.setCell ⟨w.heap.size, j, none⟩ (.int .i64 x)).ownsRow w.heap.size 3 1 (.slice (some ⟨w.heap.size, 0, none⟩) n0 n0) n0 ((zfill (l ++ [x]) n0).map (Value.int .i64))) := by
          have := (World.ownsRow.stored HO2.out j (.int .i64 x)).1
          rw [← List.map_set, ← HL.out, zfill_set l n0 x (by rw [HL.out]; exact hlt)] at this
          rw [HL.out] at this
          exact this
        have HC2 : Hid (Chg w (w1.setCell ⟨w.heap.size, j, none⟩ (.int .i64 x)) c (c + 2)) :=
          ⟨HG1.out.os, HG1.out.tape, HG1.out.output, by rw [World.size_setCell]; exact HG1.out.size, fun p hp ho => (heap_setCell_other w1 ⟨w.heap.size, j, none⟩ p _ (by show p ≠ w.heap.size; omega)).trans (HG1.out.block p hp ho)⟩
        have HP3 : Hid (Pu (w1.setCell ⟨w.heap.size, j, none⟩ (.int .i64 x)) c ws k') := HP2.out.chg (chg_setCell _ _ _ _) (Or.inl (by have := HQ.out; omega))
        generalize (zfill l n0).getD j 0 = y at c2
        clear g1 h3 HO1 HO2 HG HP1 HP2 zl h1 HG1 HR
        go_wp2_with fail
        exact ⟨⟨j + 1, by omega, by go_num, HC2, l ++ [x], k', HR1, HS, HP3⟩, by simp [intOf]; omega⟩
      · have HR1 : Hid (drP D k0 n0 = none) := by
          have := drP_none (drP_dry HR.out h1) (n0 - (j + 1))
          rw [show j + 1 + (n0 - (j + 1)) = n0 by omega] at this
          exact this
        have HG1 : Hid (Chg w w1 c (c + 2)) := HG.out.trans g1
        clear g1 HO1 HG HP1 h1 HR
        go_wp2_with fail
        go_ret3
        unfold RwP
        exact ⟨HG1.out, Or.inr ⟨HR1.out, rfl⟩⟩
    · have dl : decide ((j : Int) < (n0 : Int)) = false := by simp; omega
      obtain rfl : j = n0 := by omega
      have HF : Hid (Own wr w.heap.size (.slice (some ⟨w.heap.size, 0, none⟩) j j) l) := by
        have := HO1.out
        rw [zfill_all l j HL.out] at this
        unfold Own
        rw [HL.out]
        exact this
      have c1 : wr.cell? ⟨c + 1, 1, none⟩ = some (.int .i64 (k : Int)) := by rw [cell_of_row _ _ _ _ _ _ HP1.out.cells]; rfl
      clear HO1 HP1
      go_wp2_with fail
      go_quiet (fail)
      go_wp2_with fail
      go_ret3
      unfold RwP
      exact ⟨HG.out.trans (chg_drew _ _ _ _), Or.inl ⟨l, k, _, HR.out, rfl, HF.out.old ((Old.refl _).drewN _)⟩⟩
end Go.Proofs.YtinldhoimnbkhaaDoor
/- Proved: contracts of the program's rows of draws: UniformRow, NoiseRow. -/
namespace Go.Proofs.YtinldhoimnbkhaaDoor
open Go.ChangeShapes Go.WideShapes Go.ChangeAt Go.RowKit
set_option linter.unusedVariables false
set_option linter.unusedSimpArgs false
/-- where a draw stops -/
def nx (ws : List Int) (M : Nat) : Nat → Nat → Nat
  | 0, k => k
  | f + 1, k => if ws.getD k 0 < (M : Int) then k else nx ws M f (k + 1)
theorem nx_stp (ws : List Int) (M : Nat) : ∀ f k, k + f = ws.length → Stp ws M k (nx ws M f k)
  | 0, k, h => ⟨Nat.le_refl _, by show k ≤ _; omega, fun i hi hj => by have : i < k := hj; omega, fun hk => by have : k < ws.length := hk; omega⟩
  | f + 1, k, h => by
    by_cases hx : ws.getD k 0 < (M : Int)
    · rw [nx, if_pos hx]
      exact ⟨Nat.le_refl _, by omega, fun i hi hj => by omega, fun _ => hx⟩
    · rw [nx, if_neg hx]
      obtain ⟨h1, h2, h3, h4⟩ := nx_stp ws M f (k + 1) (by omega)
      refine ⟨by omega, h2, fun i hi hj => ?_, h4⟩
      rcases Nat.eq_or_lt_of_le hi with e | e
      · subst e; omega
      · exact h3 i e hj
/-- a draw below p from number k on -/
def uD (ws : List Int) (p k : Nat) : Option (Int × Nat) :=
  if nx ws (mulM p) (ws.length - k) k < ws.length then some (ws.getD (nx ws (mulM p) (ws.length - k) k) 0 % (p : Int), nx ws (mulM p) (ws.length - k) k + 1) else none
theorem uniform_dp (ws : List Int) (c p : Nat) (hw : wdB ws = true) (hl : ws.length ≤ 4000) (hp : 2 ≤ p ∧ p ≤ 268435456) (k : Nat) (W : World) (h : Pu W c ws k) :
    Calls Tryd.prog 121 #[.pointer (some ⟨c + 1, 0, none⟩), .int .i64 p] W fun e w' => DrP (uD ws p) ws W c k e w' := by
  have hs := nx_stp ws (mulM p) (ws.length - k) k (by have := h.le; omega)
  refine (uniform_p ws c k p _ W hw hl h hp hs).mono ?_
  rintro e w' ⟨g, ⟨h1, h2, h3⟩ | ⟨h1, h2⟩⟩
  · exact ⟨g, Or.inl ⟨_, _, by unfold uD; rw [if_pos h1], h2, h3⟩⟩
  · exact ⟨g, Or.inr ⟨by unfold uD; rw [if_neg (by omega)], _, h2⟩⟩
theorem uniform_dm (ws : List Int) (q p : Nat) (v : Value) (hw : wdB ws = true) (hl : ws.length ≤ 4000) (hp : 2 ≤ p ∧ p ≤ 268435456) (k : Nat) (W : World) (h : Sp W q v ws k true) :
    Calls Tryd.prog 116 #[.pointer (some ⟨q, 0, none⟩), .int .i64 p] W fun e w' => DrM (uD ws p) ws W q v k e w' := by
  have hs := nx_stp ws (mulM p) (ws.length - k) k (by have := h.le; omega)
  refine (uniform_m ws q k p _ v W hw hl h hp hs).mono ?_
  rintro e w' ⟨g, ⟨h1, h2, h3⟩ | ⟨h1, h2, h3⟩⟩
  · exact ⟨g, Or.inl ⟨_, _, by unfold uD; rw [if_pos h1], h2, h3⟩⟩
  · exact ⟨g, Or.inr ⟨by unfold uD; rw [if_neg (by omega)], ⟨_, h2⟩, _, h3⟩⟩
/-- the numbers of an answer -/
def aL : Option (List Int × Nat) → List Int
  | some (l, _) => l
  | none => []
/-- the next at of an answer -/
def aK : Option (List Int × Nat) → Int
  | some (_, k) => k
  | none => 0
/-- what a row's call leaves -/
def RowAns (A : Option (List Int × Nat)) (W : World) (e : Ending) (w' : World) : Prop :=
  ∃ v', e = .returned (.tuple #[v', .int .i64 (aK A), .bool A.isSome]) ∧ Old W w' ∧ Own w' W.heap.size v' (aL A)
theorem rowAns_nil (W : World) : RowAns none W (.returned (.tuple #[.slice none 0 0, .int .i64 0, .bool false])) W := ⟨_, rfl, Old.refl W, rfl, .inl ⟨rfl, rfl⟩⟩
/-- whether one may draw -/
def mayB (ws : List Int) (at_ n : Int) : Bool := wsB ws && inQ at_ 0 ws.length && inQ n 0 64
theorem mayB_yes {ws : List Int} {at_ n : Int} (h : mayB ws at_ n = true) : wdB ws = true ∧ ws.length ≤ 4000 ∧ (0 ≤ at_ ∧ at_ ≤ ws.length) ∧ (0 ≤ n ∧ n ≤ 64) := by
  simp only [mayB, wsB, inQ, Bool.and_eq_true, decide_eq_true_eq] at h
  exact ⟨h.1.1.2, h.1.1.1, h.1.2, h.2⟩
def uRow (ws : List Int) (at_ p n : Int) : Option (List Int × Nat) := if mayB ws at_ n && modB p then drP (uD ws p.toNat) at_.toNat n.toNat else none
theorem rowAns_draw {R : Option (List Int × Nat)} {W w1 w2 : World} {e : Ending} (g : Old W w1) (h : RwP R w1 W.heap.size e w2) : RowAns R W e w2 := by
  obtain ⟨c, ⟨l, k, v', rfl, rfl, ho⟩ | ⟨rfl, rfl⟩⟩ := h
  · exact ⟨v', rfl, g.chg c (Nat.le_refl _), ho.low g.size⟩
  · exact ⟨_, rfl, g.chg c (Nat.le_refl _), rfl, .inl ⟨rfl, rfl⟩⟩
set_option maxRecDepth 100000 in
set_option maxHeartbeats 2000000 in
theorem impl_UniformRow (ws : List Int) (v : Value) (at_ p n : Int) (w : World) (h : Row w v ws) (hf : Fit7 v) (hl : ws.length ≤ 9223372036854775807) :
    Calls Tryd.prog 102 #[v, .int .i64 at_, .int .i64 p, .int .i64 n] w fun e w' => RowAns (uRow ws at_ p n) w e w' := by
  have K1 := fun W (e : W = w) => (by subst e; exact mayDraw_any ws v at_ n _ h hl : Calls Tryd.prog 117 #[v, .int .i64 at_, .int .i64 n] W fun e w' => e = .returned (.bool (mayB ws at_ n)) ∧ w' = W)
  have K2 := fun W => impl_isModulus p W
  obtain ⟨a, cap, rfl⟩ := h.slice
  unfold uRow
  cases hm : mayB ws at_ n
  · rw [hm] at K1
    clear h hf K2 hm
    go_enter Tryd.func102, Tryd.ntmps102
    go_wp2_with fail
    refine (K1 _ rfl).mono ?_
    rintro e w' ⟨rfl, hw⟩
    obtain rfl := hw.symm
    go_wp2_with fail
    go_ret3
    exact rowAns_nil _
  · rw [hm] at K1
    cases hp : modB p
    · rw [hp] at K2
      clear h hf hm hp
      go_enter Tryd.func102, Tryd.ntmps102
      go_wp2_with fail
      refine (K1 _ rfl).mono ?_
      rintro e w' ⟨rfl, hw⟩
      obtain rfl := hw.symm
      go_wp2_with fail
      refine (K2 _).mono ?_
      rintro e w' ⟨rfl, hw⟩
      obtain rfl := hw.symm
      go_wp2_with fail
      go_ret3
      exact rowAns_nil _
    · rw [hp] at K2
      obtain ⟨h1, h2, ⟨h3, h4⟩, h5, h6⟩ := mayB_yes hm
      obtain ⟨h7, h8⟩ := modB_yes hp
      obtain ⟨A, rfl⟩ := Int.eq_ofNat_of_zero_le h3
      obtain ⟨P, rfl⟩ := Int.eq_ofNat_of_zero_le (show 0 ≤ p by omega)
      obtain ⟨N, rfl⟩ := Int.eq_ofNat_of_zero_le h5
      have K3 : Hid (∀ W, W = w → Calls Tryd.prog 120 #[.slice a ws.length cap, .int .i64 A] W fun e w' => e = .returned (.pointer (some ⟨W.heap.size + 1, 0, none⟩)) ∧ Old W w' ∧ Pu w' W.heap.size ws A) := fun W e => by subst e; exact purseOf_any ws _ A _ h hf h2 (by omega)
      have K4 : Hid (∀ c W, Pu W c ws A → Calls Tryd.prog 119 #[.pointer (some ⟨c + 1, 0, none⟩), .func (.func 121) #[] #[], .int .i64 P, .int .i64 N] W fun e w' => RwP (drP (uD ws P) A N) W c e w') :=
        fun c W hP => drawRow_uniform (uD ws P) ws c A N P W (by omega) hP (uniform_dp ws c P h1 h2 (by omega))
      clear h hf hm hp h1 h2 h3 h4 h5 h6 h7 h8 hl
      go_enter Tryd.func102, Tryd.ntmps102
      go_wp2_with fail
      refine (K1 _ rfl).mono ?_
      rintro e w' ⟨rfl, hw⟩
      obtain rfl := hw.symm
      go_wp2_with fail
      refine (K2 _).mono ?_
      rintro e w' ⟨rfl, hw⟩
      obtain rfl := hw.symm
      go_wp2_with fail
      refine (K3.out _ rfl).mono ?_
      rintro e w1 ⟨rfl, g1, p1⟩
      have HG : Hid (Old w w1) := g1
      have HP : Hid (Pu w1 w.heap.size ws A) := p1
      clear g1 p1
      go_wp2_with fail
      refine (K4.out _ _ HP.out).mono ?_
      intro e w2 hr
      have hA := rowAns_draw HG.out hr
      obtain ⟨v', rfl, HA⟩ : ∃ v', e = .returned (.tuple #[v', .int .i64 (aK (drP (uD ws P) A N)), .bool (drP (uD ws P) A N).isSome]) ∧ Hid (Old w w2 ∧ Own w2 w.heap.size v' (aL (drP (uD ws P) A N))) := by
        obtain ⟨v', h1, h2⟩ := hA
        exact ⟨v', h1, h2⟩
      clear hr hA
      have HR : Hid ((if true && true then drP (uD ws (P : Int).toNat) (A : Int).toNat (N : Int).toNat else none) = drP (uD ws P) A N) := by show _ = _; simp
      go_wp2_with fail
      go_ret3
      exact ⟨v', rfl, HA.out.1, HA.out.2⟩
end Go.Proofs.YtinldhoimnbkhaaDoor
/- Proved: contracts of the program's TernaryRow and of its draws of one: UniformFrom, TernaryFrom, NoiseFrom. -/
namespace Go.Proofs.YtinldhoimnbkhaaDoor
open Go.ChangeShapes Go.WideShapes Go.ChangeAt Go.RowKit
set_option linter.unusedVariables false
set_option linter.unusedSimpArgs false
/-- 2 is -1 -/
def tern (x : Int) : Int := if x = 2 then -1 else x
/-- a draw of -1, 0 or 1 -/
def tD (ws : List Int) (k : Nat) : Option (Int × Nat) := match uD ws 3 k with
  | none => none
  | some (x, k') => some (tern x, k')
theorem drP_map (ws : List Int) (k0 : Nat) : ∀ n, drP (tD ws) k0 n = match drP (uD ws 3) k0 n with
    | none => none
    | some (l, k) => some (l.map tern, k)
  | 0 => rfl
  | n + 1 => by
    simp only [drP]
    rw [drP_map ws k0 n]
    cases h : drP (uD ws 3) k0 n with
    | none => rfl
    | some p =>
      obtain ⟨l, k⟩ := p
      simp only [tD]
      cases h2 : uD ws 3 k with
      | none => rfl
      | some p2 =>
        obtain ⟨x, k'⟩ := p2
        simp
theorem drP_in {ws : List Int} {k0 p : Nat} (hp : 0 < p) : ∀ n l k, drP (uD ws p) k0 n = some (l, k) → ∀ x ∈ l, 0 ≤ x ∧ x < p
  | 0, l, k, h, x, hx => by simp [drP] at h; rw [h.1] at hx; simp at hx
  | n + 1, l, k, h, x, hx => by
    simp only [drP] at h
    cases e : drP (uD ws p) k0 n with
    | none => rw [e] at h; simp at h
    | some q =>
      obtain ⟨l', k'⟩ := q
      rw [e] at h
      simp only at h
      cases e2 : uD ws p k' with
      | none => rw [e2] at h; simp at h
      | some q2 =>
        obtain ⟨y, k2⟩ := q2
        rw [e2] at h
        simp only [Option.some.injEq, Prod.mk.injEq] at h
        rw [← h.1] at hx
        rcases List.mem_append.1 hx with h3 | h3
        · exact drP_in hp n l' k' e x h3
        · rw [List.mem_singleton] at h3
          subst h3
          unfold uD at e2
          split at e2
          · simp only [Option.some.injEq, Prod.mk.injEq] at e2
            rw [← e2.1]
            exact ⟨Int.emod_nonneg _ (by omega), Int.emod_lt_of_pos _ (by omega)⟩
          · cases e2
def tRow (ws : List Int) (at_ n : Int) : Option (List Int × Nat) := if mayB ws at_ n then drP (tD ws) at_.toNat n.toNat else none
theorem uRow3 (ws : List Int) (at_ n : Int) : uRow ws at_ 3 n = if mayB ws at_ n then drP (uD ws 3) at_.toNat n.toNat else none := by
  unfold uRow
  rw [show modB 3 = true by rfl, Bool.and_true]
  rfl
theorem tRow_is (ws : List Int) (at_ n : Int) : aK (tRow ws at_ n) = aK (uRow ws at_ 3 n) ∧ (tRow ws at_ n).isSome = (uRow ws at_ 3 n).isSome ∧ aL (tRow ws at_ n) = (aL (uRow ws at_ 3 n)).map tern := by
  rw [uRow3]
  unfold tRow
  cases mayB ws at_ n
  · exact ⟨rfl, rfl, rfl⟩
  · simp only [if_true]
    rw [drP_map]
    cases drP (uD ws 3) at_.toNat n.toNat with
    | none => exact ⟨rfl, rfl, rfl⟩
    | some p => exact ⟨rfl, rfl, rfl⟩
theorem uRow3_in (ws : List Int) (at_ n : Int) : (∀ x ∈ aL (uRow ws at_ 3 n), 0 ≤ x ∧ x < 3) ∧ (aL (uRow ws at_ 3 n)).length ≤ 64 := by
  rw [uRow3]
  cases hm : mayB ws at_ n
  · exact ⟨fun x hx => by simp [aL] at hx, by simp [aL]⟩
  · simp only [if_true]
    obtain ⟨_, _, _, h5, h6⟩ := mayB_yes hm
    cases h : drP (uD ws 3) at_.toNat n.toNat with
    | none => exact ⟨fun x hx => by simp [aL] at hx, by simp [aL]⟩
    | some p =>
      obtain ⟨l, k⟩ := p
      refine ⟨drP_in (p := 3) (by omega) _ l k h, ?_⟩
      show l.length ≤ 64
      rw [drP_len _ l k h]
      omega
theorem centred3 (x : Int) (h : 0 ≤ x ∧ x < 3) (w : World) : Calls Tryd.prog 103 #[.int .i64 x, .int .i64 3] w fun e w' => e = .returned (.int .i64 (tern x)) ∧ w' = w := by
  obtain ⟨h1, h2⟩ := h
  obtain rfl | rfl | rfl : x = 0 ∨ x = 1 ∨ x = 2 := by omega
  all_goals
    go_enter Tryd.func103, Tryd.ntmps103
    go_wp2_with fail
    go_ret
    exact ⟨rfl, rfl⟩
/-- the first j numbers turned -/
def tmap (zs : List Int) (j : Nat) : List Int := (zs.take j).map tern ++ zs.drop j
theorem tmap_len (zs : List Int) (j : Nat) : (tmap zs j).length = zs.length := by simp [tmap]; omega
theorem tmap_set (zs : List Int) (j : Nat) (h : j < zs.length) : (tmap zs j).set j (tern (zs.getD j 0)) = tmap zs (j + 1) := by
  unfold tmap
  have hl : ((zs.take j).map tern).length = j := by simp; omega
  rw [List.set_append_right _ _ (by rw [hl]; exact Nat.le_refl _), hl, Nat.sub_self, List.drop_eq_getElem_cons h, List.set_cons_zero, take_succI zs j h, List.map_append, List.append_assoc]
  rfl
theorem tmap_get (zs : List Int) (j : Nat) (h : j < zs.length) : (tmap zs j).getD j 0 = zs.getD j 0 := by
  unfold tmap
  have hl : ((zs.take j).map tern).length = j := by simp; omega
  rw [List.getD_eq_getElem?_getD, List.getElem?_append_right (by rw [hl]; exact Nat.le_refl _), hl, Nat.sub_self]
  simp [List.getD, h]
theorem tmap_all (zs : List Int) : tmap zs zs.length = zs.map tern := by simp [tmap]
set_option maxRecDepth 100000 in
set_option maxHeartbeats 2000000 in
theorem impl_TernaryRow (ws : List Int) (v : Value) (at_ n : Int) (w : World) (h : Row w v ws) (hf : Fit7 v) (hl : ws.length ≤ 9223372036854775807) :
    Calls Tryd.prog 75 #[v, .int .i64 at_, .int .i64 n] w fun e w' => RowAns (tRow ws at_ n) w e w' := by
  have K1 : Hid (∀ W, W = w → Calls Tryd.prog 102 #[v, .int .i64 at_, .int .i64 3, .int .i64 n] W fun e w' => RowAns (uRow ws at_ 3 n) W e w') := fun W e => by subst e; exact impl_UniformRow ws v at_ 3 n _ h hf hl
  obtain ⟨a, cap, rfl⟩ := h.slice
  obtain ⟨t1, t2, t3⟩ := tRow_is ws at_ n
  obtain ⟨t4, t5⟩ := uRow3_in ws at_ n
  obtain ⟨K, hK⟩ : ∃ K, K = aK (uRow ws at_ 3 n) := ⟨_, rfl⟩
  obtain ⟨B, hB⟩ : ∃ B, B = (uRow ws at_ 3 n).isSome := ⟨_, rfl⟩
  obtain ⟨zs, hzs⟩ : ∃ zs, zs = aL (uRow ws at_ 3 n) := ⟨_, rfl⟩
  rw [← hK] at t1
  rw [← hB] at t2
  rw [← hzs] at t3 t4 t5
  have HT : Hid (aK (tRow ws at_ n) = K ∧ (tRow ws at_ n).isSome = B ∧ aL (tRow ws at_ n) = zs.map tern) := ⟨t1, t2, t3⟩
  have HZ : Hid (∀ x ∈ zs, 0 ≤ x ∧ x < 3) := t4
  have K1' : Hid (∀ W, W = w → Calls Tryd.prog 102 #[.slice a ws.length cap, .int .i64 at_, .int .i64 3, .int .i64 n] W fun e w' => ∃ v', e = .returned (.tuple #[v', .int .i64 K, .bool B]) ∧ Hid (Old W w' ∧ Own w' W.heap.size v' zs)) := fun W e => (K1.out W e).mono fun e w' ⟨v', h1, h2⟩ => ⟨v', by rw [h1, hK, hB], by rw [hzs]; exact h2⟩
  clear t1 t2 t3 t4 hK hB hzs K1 h hf
  go_enter Tryd.func75, Tryd.ntmps75
  go_wp2_with fail
  refine (K1'.out _ rfl).mono ?_
  rintro e w1 ⟨v', rfl, HX⟩
  by_cases h0 : zs.length = 0
  · obtain rfl := List.length_eq_zero_iff.1 h0
    obtain ⟨a0, cap0, rfl⟩ := (Own.row HX.out.2).slice
    go_wp2_with fail
    refine wp_loop_rounds 1 ?_
    rw [rounds_succ]
    go_wp2_with fail
    go_ret3
    unfold RowAns
    rw [HT.out.1, HT.out.2.1, HT.out.2.2]
    exact ⟨_, rfl, HX.out.1, HX.out.2⟩
  · obtain ⟨g, cp, rfl⟩ : ∃ g cap, v' = .slice (some ⟨g, 0, none⟩) zs.length cap := by
      rcases HX.out.2.2 with ⟨_, h1⟩ | ⟨g, cap, cur, e, _⟩
      · exact absurd h1 h0
      · exact ⟨g, cap, e⟩
    have HO : Hid (w1.ownsRow w.heap.size 3 1 (.slice (some ⟨g, 0, none⟩) zs.length cp) zs.length ((tmap zs 0).map (Value.int .i64))) := HX.out.2
    have HG : Hid (Old w w1) := HX.out.1
    clear HX h0
    go_wp2_with fail
    go_loopw [24] (fun i W => ∃ j : Nat, j ≤ zs.length ∧ i = .int .i64 j ∧ Hid (W.ownsRow w.heap.size 3 1 (.slice (some ⟨g, 0, none⟩) zs.length cp) zs.length ((tmap zs j).map (Value.int .i64))) ∧ Hid (Old w W)) (fun i _ => zs.length - (intOf i).toNat)
    case atStart => exact ⟨0, by omega, rfl, HO, HG⟩
    case round =>
      obtain ⟨j, hj, rfl, HO1, HG1⟩ := hrel
      clear HO HG
      by_cases hlt : j < zs.length
      · have dl : decide ((j : Int) < (zs.length : Int)) = true := by simp; omega
        have c2 : wr.cell? ⟨g, j, none⟩ = some (.int .i64 (zs.getD j 0)) := by
          rw [World.ownsRow.cellAt HO1.out j (by omega), ← tmap_get zs j hlt]
          have := tmap_len zs j
          simp [List.getD, this, hlt]
        have c3 : wr.frozen? ⟨g, j, none⟩ = false := World.ownsRow.frozenAt HO1.out j
        have K2 := fun W => centred3 (zs.getD j 0) (HZ.out _ (by simp [List.getD, hlt])) W
        have st := World.ownsRow.stored HO1.out j (.int .i64 (tern (zs.getD j 0)))
        have HS : Hid ((wr.setCell ⟨g, j, none⟩ (.int .i64 (tern (zs.getD j 0)))).ownsRow w.heap.size 3 1 (.slice (some ⟨g, 0, none⟩) zs.length cp) zs.length ((tmap zs (j + 1)).map (Value.int .i64))) := by
          have := st.1
          rw [← List.map_set, tmap_set zs j hlt] at this
          exact this
        have HG2 : Hid (Old w (wr.setCell ⟨g, j, none⟩ (.int .i64 (tern (zs.getD j 0))))) := Below.grown HG1.out st.2 HG1.out.size (fun b hb => (HO1.out.lt b hb).1)
        clear st HO1
        generalize zs.getD j 0 = x at *
        generalize tern x = y at *
        go_wp2_with fail
        refine (K2 _).mono ?_
        rintro e w' ⟨rfl, hw⟩
        obtain rfl := hw.symm
        go_wp2_with fail
        exact ⟨⟨j + 1, by omega, by go_num, HS, HG2⟩, by simp [intOf]; omega⟩
      · have dl : decide ((j : Int) < (zs.length : Int)) = false := by simp; omega
        obtain rfl : j = zs.length := by omega
        have HF : Hid (Own wr w.heap.size (.slice (some ⟨g, 0, none⟩) zs.length cp) (zs.map tern)) := by
          have := HO1.out
          rw [tmap_all] at this
          unfold Own
          rw [List.length_map]
          exact this
        clear HO1
        go_wp2_with fail
        go_ret3
        unfold RowAns
        rw [HT.out.1, HT.out.2.1, HT.out.2.2]
        exact ⟨_, rfl, HG1.out, HF.out⟩
def atB (ws : List Int) (at_ : Int) : Bool := wsB ws && inQ at_ 0 ws.length
end Go.Proofs.YtinldhoimnbkhaaDoor
/- Proved: contracts of the model's six functions of chapter 7. -/
namespace Go.Proofs.YtinldhoimnbkhaaDoor
open Go.ChangeShapes Go.WideShapes Go.ChangeAt Go.RowKit
set_option linter.unusedVariables false
set_option linter.unusedSimpArgs false
theorem ternary_dm (ws : List Int) (q : Nat) (v : Value) (hw : wdB ws = true) (hl : ws.length ≤ 4000) (k : Nat) (W : World) (h : Sp W q v ws k true) :
    Calls Tryd.prog 101 #[.pointer (some ⟨q, 0, none⟩)] W fun e w' => DrM (tD ws) ws W q v k e w' := by
  have K1 : Hid (Calls Tryd.prog 116 #[.pointer (some ⟨q, 0, none⟩), .int .i64 3] W fun e w' => DrM (uD ws 3) ws W q v k e w') := uniform_dm ws q 3 v hw hl (by omega) k W h
  clear h hw
  go_enter Tryd.func101, Tryd.ntmps101
  go_wp2_with fail
  refine K1.out.mono ?_
  rintro e w1 ⟨g, ⟨x, k', h1, rfl, h3⟩ | ⟨h1, ⟨y, rfl⟩, k', h3⟩⟩
  · have HF : Hid (DrM (tD ws) ws W q v k (.returned (.int .i64 (tern x))) w1) := ⟨g, Or.inl ⟨tern x, k', by unfold tD; rw [h1], rfl, h3⟩⟩
    clear g h1 h3
    by_cases hx : x = 2
    · subst hx
      go_wp2_with fail
      go_ret
      exact HF.out
    · have d1 : (x == 2) = false := by simp [hx]
      have e1 : tern x = x := by simp [tern, hx]
      rw [e1] at HF
      go_wp2_with fail
      go_ret
      exact HF.out
  · have HF : Hid (∀ z, DrM (tD ws) ws W q v k (.returned (.int .i64 z)) w1) := fun z => ⟨g, Or.inr ⟨by unfold tD; rw [h1], ⟨z, rfl⟩, k', h3⟩⟩
    clear g h1 h3
    by_cases hx : y = 2
    · subst hx
      go_wp2_with fail
      go_ret
      exact HF.out _
    · have d1 : (y == 2) = false := by simp [hx]
      go_wp2_with fail
      go_ret
      exact HF.out _
theorem outRow_yes (ws : List Int) (q k m c : Nat) (a : Option Addr) (v : Value) (w : World) (h : Sp w q v ws k true) :
    Calls Tryd.prog 73 #[.pointer (some ⟨q, 0, none⟩), .slice a m c] w fun e w' => e = .returned (.tuple #[.slice a m c, .int .i64 (k : Int), .bool true]) ∧ Old w w' := by
  have c1 := h.c1
  have c2 := h.c2
  clear h
  go_enter Tryd.func73, Tryd.ntmps73
  go_wp2_with fail
  go_quiet (fail)
  go_wp2_with fail
  go_ret3
  exact ⟨rfl, (Old.refl w).drewN _⟩
theorem outRow_no (ws : List Int) (q k m c : Nat) (a : Option Addr) (v : Value) (w : World) (h : Sp w q v ws k false) :
    Calls Tryd.prog 73 #[.pointer (some ⟨q, 0, none⟩), .slice a m c] w fun e w' => e = .returned (.tuple #[.slice none 0 0, .int .i64 0, .bool false]) ∧ Old w w' := by
  have c2 := h.c2
  clear h
  go_enter Tryd.func73, Tryd.ntmps73
  go_wp2_with fail
  go_ret3
  exact ⟨rfl, Old.refl w⟩
theorem Sp.new {w : World} {v : Value} {ws : List Int} {k : Nat} (h : Row w v ws) (hk : k ≤ ws.length) : Sp (w.alloc (.cells #[v, .int .i64 (k : Int), .bool true] 124)) w.heap.size v ws k true := by
  refine ⟨hk, heap_alloc_new _ _, h.old ((Old.refl w).alloc _), fun b o cap e h0 => ?_⟩
  rcases h with ⟨a, c, e1, e2⟩ | ⟨b', o', c, e1, hb, _⟩
  · rw [e2] at h0; simp at h0
  · rw [e] at e1
    injection e1 with e3
    injection e3 with e4
    injection e4 with e5
    rw [e5]
    exact hb
theorem atB_yes {ws : List Int} {at_ : Int} (h : atB ws at_ = true) : wdB ws = true ∧ ws.length ≤ 4000 ∧ (0 ≤ at_ ∧ at_ ≤ ws.length) := by
  simp only [atB, wsB, inQ, Bool.and_eq_true, decide_eq_true_eq] at h
  exact ⟨h.1.2, h.1.1, h.2⟩
theorem l7Words_at (ws : List Int) (v : Value) (at_ : Int) (w : World) (h : Row w v ws) (hl : ws.length ≤ 9223372036854775807) :
    Calls Tryd.prog 71 #[v, .int .i64 at_] w fun e w' => e = .returned (.bool (atB ws at_)) ∧ w' = w := l7Words_any ws v at_ w h hl
theorem mayB_at (ws : List Int) (at_ n : Int) : mayB ws at_ n = (atB ws at_ && inQ n 0 64) := rfl
end Go.Proofs.YtinldhoimnbkhaaDoor
/- Proved: a row that is drawn has at most 64 numbers. -/
namespace Go.Proofs.YtinldhoimnbkhaaDoor
open Go.ChangeShapes Go.WideShapes Go.ChangeAt Go.RowKit
theorem len_drP (D : Nat → Option (Int × Nat)) (g : Bool) (k : Nat) (n : Int) (h : g = true → n ≤ 64) : (aL (if g then drP D k n.toNat else none)).length ≤ 1000 := by
  cases g
  · simp [aL]
  · simp only [if_true]
    cases h2 : drP D k n.toNat with
    | none => simp [aL]
    | some p =>
      obtain ⟨l, k'⟩ := p
      show l.length ≤ 1000
      rw [drP_len _ l k' h2]
      have := h rfl
      omega
theorem len_tRow (ws : List Int) (at_ n : Int) : (aL (tRow ws at_ n)).length ≤ 1000 := len_drP _ _ _ n (fun h => (mayB_yes h).2.2.2.2)
end Go.Proofs.YtinldhoimnbkhaaDoor
/- Proved: contracts of SecretFrom, of model and program. -/
namespace Go.Proofs.YtinldhoimnbkhaaDoor
open Go.ChangeShapes Go.WideShapes Go.ChangeAt Go.RowKit
set_option linter.unusedVariables false
set_option linter.unusedSimpArgs false
/-- the secret that is drawn -/
def secA (N T E : Int) (xs ws : List Int) (at_ : Int) : Option (List Int × Nat) := if prB N T E xs then tRow ws at_ N else none
theorem len_sec (N T E : Int) (xs ws : List Int) (at_ : Int) : (aL (secA N T E xs ws at_)).length ≤ 1000 := by
  unfold secA
  split
  · exact len_tRow ws at_ N
  · simp [aL]
theorem pr_sp {N T E : Int} {xs : List Int} (h : prB N T E xs = true) : spB N xs = true := by
  unfold prB at h
  exact (Bool.and_eq_true_iff.1 h).1
theorem rowAns_old {A : Option (List Int × Nat)} {w W w' : World} {e : Ending} (g : Old w W) (h : RowAns A W e w') : RowAns A w e w' := by
  obtain ⟨v', h1, h2, h3⟩ := h
  exact ⟨v', h1, Old.trans g h2, h3.low g.size⟩
theorem l8Source_any (v : Value) (a : Option Addr) (l c : Nat) (hv : v = .slice a l c) (at_ : Int) (w : World) :
    Calls Tryd.prog 72 #[v, .int .i64 at_] w fun e w' => e = .returned (.pointer (some ⟨w.heap.size, 0, none⟩)) ∧ w' = w.alloc (.cells #[v, .int .i64 at_, .bool true] 124) := by
  subst hv
  go_enter Tryd.func72, Tryd.ntmps72
  go_wp2_with fail
  go_ret
  exact ⟨rfl, rfl⟩
set_option maxRecDepth 100000 in
set_option maxHeartbeats 4000000 in
theorem impl_SecretFrom (N T E : Int) (xs ws : List Int) (v u : Value) (at_ : Int) (w : World) (hP : PrsW w) (hT : TabW w) (hv : Row w v xs) (hf : Fit v) (hl : xs.length ≤ 9223372036854775807) (hu : Row w u ws) (hfu : Fit7 u) (hlu : ws.length ≤ 9223372036854775807) :
    Calls Tryd.prog 36 #[.agg #[.int .i64 N, .int .i64 T, .int .i64 E, v], u, .int .i64 at_] w fun e w' => RowAns (secA N T E xs ws at_) w e w' := by
  have K1 : ∀ W, Old w W → Calls Tryd.prog 32 #[.agg #[.int .i64 N, .int .i64 T, .int .i64 E, v]] W fun e w' => e = .returned (.bool (prB N T E xs)) ∧ Old W w' := fun W g => impl_goodParams2 N T E xs v W (hP.old g) (hT.old g) (hv.old g) hf hl
  have K2 : ∀ W, Old w W → Calls Tryd.prog 75 #[u, .int .i64 at_, .int .i64 N] W fun e w' => RowAns (tRow ws at_ N) w e w' := fun W g => (impl_TernaryRow ws u at_ N W (hu.old g) hfu hlu).mono fun e w' h => rowAns_old g h
  obtain ⟨a0, c0, rfl⟩ := hv.slice
  obtain ⟨a1, c1, rfl⟩ := hu.slice
  have HA : Hid (Old w (w.alloc (.cells #[.int .i64 N, .int .i64 T, .int .i64 E, .slice a0 xs.length c0] 47))) := (Old.refl w).alloc _
  have BA : Hid (Bk (w.alloc (.cells #[.int .i64 N, .int .i64 T, .int .i64 E, .slice a0 xs.length c0] 47)) w.heap.size #[.int .i64 N, .int .i64 T, .int .i64 E, .slice a0 xs.length c0] 47) := Bk.new' w _ _ rfl
  clear hv hu
  cases hp : prB N T E xs
  · rw [hp] at K1
    have HE : Hid (secA N T E xs ws at_ = none) := by show _ = _; unfold secA; rw [hp]; rfl
    clear K2
    go_enter Tryd.func36, Tryd.ntmps36
    go_wp2_with fail
    refine (K1 _ HA.out).mono ?_
    rintro e w1 ⟨rfl, g1⟩
    have HG1 : Hid (Old w w1) := Old.trans HA.out g1
    clear g1
    go_wp2_with fail
    go_ret3
    rw [HE.out]
    exact rowAns_old HG1.out (rowAns_nil _)
  · rw [hp] at K1
    have HE : Hid (secA N T E xs ws at_ = tRow ws at_ N) := by show _ = _; unfold secA; rw [hp]; rfl
    clear hp
    go_enter Tryd.func36, Tryd.ntmps36
    go_wp2_with fail
    refine (K1 _ HA.out).mono ?_
    rintro e w1 ⟨rfl, g1⟩
    have HG1 : Hid (Old w w1) := Old.trans HA.out g1
    have B1 : Hid (Bk w1 w.heap.size #[.int .i64 N, .int .i64 T, .int .i64 E, .slice a0 xs.length c0] 47) := BA.out.old g1
    have z0 := B1.out.c (i := 0) rfl
    clear g1
    go_wp2_with fail
    refine (K2 _ HG1.out).mono ?_
    rintro e w2 ⟨v', rfl, h2⟩
    have H2 : Hid (Old w w2 ∧ Own w2 w.heap.size v' (aL (tRow ws at_ N))) := h2
    clear h2
    go_wp2_with fail
    go_ret3
    rw [HE.out]
    exact ⟨_, rfl, H2.out.1, H2.out.2⟩
set_option maxRecDepth 100000 in
set_option maxHeartbeats 4000000 in
theorem spec_SecretFrom (N T E : Int) (xs ws : List Int) (v u : Value) (at_ : Int) (w : World) (hv : Row w v xs) (hf : Fit v) (hl : xs.length ≤ 9223372036854775807) (hx : ∀ x ∈ xs, -9223372036854775808 ≤ x ∧ x ≤ 9223372036854775807) (hu : Row w u ws) (hlu : ws.length ≤ 9223372036854775807) :
    Calls Tryd.prog 34 #[.agg #[.int .i64 N, .int .i64 T, .int .i64 E, v], u, .int .i64 at_] w fun e w' => RowAns (secA N T E xs ws at_) w e w' := by
  have K1 : ∀ W, Old w W → Calls Tryd.prog 30 #[.agg #[.int .i64 N, .int .i64 T, .int .i64 E, v]] W fun e w' => e = .returned (.bool (prB N T E xs)) ∧ Old W w' := fun W g => spec_goodParams N T E xs v W (hv.old g) hf hl hx
  have K0 : ∀ W, Old w W → Calls Tryd.prog 71 #[u, .int .i64 at_] W fun e w' => e = .returned (.bool (atB ws at_)) ∧ w' = W := fun W g => l7Words_at ws u at_ W (hu.old g) hlu
  obtain ⟨a0, c0, rfl⟩ := hv.slice
  obtain ⟨a1, c1, hu1⟩ := hu.slice
  have HA : Hid (Old w (w.alloc (.cells #[.int .i64 N, .int .i64 T, .int .i64 E, .slice a0 xs.length c0] 47))) := (Old.refl w).alloc _
  have BA : Hid (Bk (w.alloc (.cells #[.int .i64 N, .int .i64 T, .int .i64 E, .slice a0 xs.length c0] 47)) w.heap.size #[.int .i64 N, .int .i64 T, .int .i64 E, .slice a0 xs.length c0] 47) := Bk.new' w _ _ rfl
  have HU : Hid (Row w u ws) := hu
  clear hv hu
  cases hp : prB N T E xs
  · rw [hp] at K1
    have HE : Hid (secA N T E xs ws at_ = none) := by show _ = _; unfold secA; rw [hp]; rfl
    subst hu1
    clear K0 hp
    go_enter Tryd.func34, Tryd.ntmps34
    go_wp2_with fail
    refine (K1 _ HA.out).mono ?_
    rintro e w1 ⟨rfl, g1⟩
    have HG1 : Hid (Old w w1) := Old.trans HA.out g1
    have B1 : Hid (Bk w1 w.heap.size #[.int .i64 N, .int .i64 T, .int .i64 E, .slice a0 xs.length c0] 47) := BA.out.old g1
    clear g1
    go_wp2_with fail
    go_ret3
    rw [HE.out]
    exact rowAns_old HG1.out (rowAns_nil _)
  rw [hp] at K1
  cases h0 : atB ws at_
  · rw [h0] at K0
    have HE : Hid (secA N T E xs ws at_ = none) := by show _ = _; unfold secA; rw [hp]; simp [tRow, mayB_at, h0]
    subst hu1
    clear hp h0
    go_enter Tryd.func34, Tryd.ntmps34
    go_wp2_with fail
    refine (K1 _ HA.out).mono ?_
    rintro e w1 ⟨rfl, g1⟩
    have HG1 : Hid (Old w w1) := Old.trans HA.out g1
    have B1 : Hid (Bk w1 w.heap.size #[.int .i64 N, .int .i64 T, .int .i64 E, .slice a0 xs.length c0] 47) := BA.out.old g1
    clear g1
    go_wp2_with fail
    refine (K0 _ HG1.out).mono ?_
    rintro e w2 ⟨rfl, hw⟩
    obtain rfl := hw.symm
    clear hw
    go_wp2_with fail
    go_ret3
    rw [HE.out]
    exact rowAns_old HG1.out (rowAns_nil _)
  rw [h0] at K0
  have hN := (sp_ring (pr_sp hp)).1
  have h1 : inQ N 0 64 = true := by simp [inQ]; omega
  have HE : Hid (secA N T E xs ws at_ = drP (tD ws) at_.toNat N.toNat) := by show _ = _; unfold secA; rw [hp]; simp [tRow, mayB_at, h0, h1]
  obtain ⟨q1, q2, q3, q4⟩ := atB_yes h0
  obtain ⟨A, rfl⟩ := Int.eq_ofNat_of_zero_le q3
  obtain ⟨M, rfl⟩ := Int.eq_ofNat_of_zero_le (show 0 ≤ N by omega)
  have KS : Hid (∀ W, Old w W → Sp (W.alloc (.cells #[u, .int .i64 (A : Int), .bool true] 124)) W.heap.size u ws A true) := fun W g => Sp.new (HU.out.old g) (by omega)
  have KD : Hid (∀ q W, Sp W q u ws A true → Calls Tryd.prog 74 #[.pointer (some ⟨q, 0, none⟩), .int .i64 (M : Int)] W fun e w' => RwM (drP (tD ws) A M) ws W q u e w') := fun q W hs => ternaries_m (tD ws) ws q A M u W (by omega) hs (ternary_dm ws q u q1 q2)
  have KL := fun W => l8Source_any u a1 ws.length c1 hu1 (A : Int) W
  subst hu1
  clear hl q1 q2 q3 q4 h0 h1 hp hN hlu
  go_enter Tryd.func34, Tryd.ntmps34
  go_wp2_with fail
  refine (K1 _ HA.out).mono ?_
  rintro e w1 ⟨rfl, g1⟩
  have HG1 : Hid (Old w w1) := Old.trans HA.out g1
  have B1 : Hid (Bk w1 w.heap.size #[.int .i64 (M : Int), .int .i64 T, .int .i64 E, .slice a0 xs.length c0] 47) := BA.out.old g1
  clear g1
  go_wp2_with fail
  refine (K0 _ HG1.out).mono ?_
  rintro e w2 ⟨rfl, hw⟩
  obtain rfl := hw.symm
  clear hw
  go_wp2_with fail
  refine (KL _).mono ?_
  rintro e w2 ⟨rfl, hw⟩
  have HS2 : Hid (Sp w2 w1.heap.size (.slice a1 ws.length c1) ws A true) := by rw [hw]; exact KS.out w1 HG1.out
  have g2 : Old w1 w2 := by rw [hw]; exact (Old.refl w1).alloc _
  have HG2 : Hid (Old w w2) := Old.trans HG1.out g2
  have B2 : Hid (Bk w2 w.heap.size #[.int .i64 (M : Int), .int .i64 T, .int .i64 E, .slice a0 xs.length c0] 47) := B1.out.old g2
  have z0 := B2.out.c (i := 0) rfl
  have hlow : w.heap.size ≤ w1.heap.size := HG1.out.size
  have hs12 := g2.size
  clear hw g2 B1
  go_wp2_with fail
  refine (KD.out _ _ HS2.out).mono ?_
  rintro e w3 ⟨g, ⟨l, k, v', h1, rfl, o, s2⟩ | ⟨h1, ⟨b1, m, c, rfl⟩, k, s2⟩⟩
  · obtain ⟨a2, c2, rfl⟩ := (Own.row o).slice
    have HO : Hid (Own w3 w.heap.size (.slice a2 l.length c2) l) := o.low (by omega)
    have HG : Hid (Old w w3) := HG2.out.chg g (by omega)
    have HR : Hid (drP (tD ws) A M = some (l, k)) := h1
    have HQ : Hid (Sp w3 w1.heap.size (.slice a1 ws.length c1) ws k true) := s2
    clear g h1 o s2 z0
    go_wp2_with fail
    refine (outRow_yes ws _ k _ _ _ _ _ HQ.out).mono ?_
    rintro e w4 ⟨rfl, g3⟩
    have HG3 : Hid (Old w w4) := Old.trans HG.out g3
    have HO3 : Hid (Own w4 w.heap.size (.slice a2 l.length c2) l) := HO.out.old g3
    clear g3
    go_wp2_with fail
    go_ret3
    rw [HE.out]
    unfold RowAns
    show ∃ v', _ = Ending.returned (.tuple #[v', .int .i64 (aK (drP (tD ws) A M)), .bool (drP (tD ws) A M).isSome]) ∧ Old w w4 ∧ Own w4 w.heap.size v' (aL (drP (tD ws) A M))
    rw [HR.out]
    exact ⟨_, rfl, HG3.out, HO3.out⟩
  · have HG : Hid (Old w w3) := HG2.out.chg g (by omega)
    have HR : Hid (drP (tD ws) A M = none) := h1
    have HQ : Hid (Sp w3 w1.heap.size (.slice a1 ws.length c1) ws k false) := s2
    clear g h1 s2 z0
    go_wp2_with fail
    refine (outRow_no ws _ k _ _ _ _ _ HQ.out).mono ?_
    rintro e w4 ⟨rfl, g3⟩
    have HG3 : Hid (Old w w4) := Old.trans HG.out g3
    clear g3
    go_wp2_with fail
    go_ret3
    rw [HE.out]
    unfold RowAns
    show ∃ v', _ = Ending.returned (.tuple #[v', .int .i64 (aK (drP (tD ws) A M)), .bool (drP (tD ws) A M).isSome]) ∧ Old w w4 ∧ Own w4 w.heap.size v' (aL (drP (tD ws) A M))
    rw [HR.out]
    exact ⟨_, rfl, HG3.out, rfl, .inl ⟨rfl, rfl⟩⟩
end Go.Proofs.YtinldhoimnbkhaaDoor
/- Proved: the statement on SecretFrom at every argument, in a world in which the two tables are laid. -/
namespace Go.Proofs.YtinldhoimnbkhaaDoor
open Go.ChangeShapes Go.WideShapes Go.ChangeAt Go.RowKit
set_option linter.unusedVariables false
set_option linter.unusedSimpArgs false
theorem SecretFrom_any (N T E : Int) (xs ws : List Int) (v u : Value) (at_ : Int) (w : World) (hv : Row w v xs) (hl : xs.length ≤ 9223372036854775807) (hx : ∀ x ∈ xs, -9223372036854775808 ≤ x ∧ x ≤ 9223372036854775807) (hu : Row w u ws) (hs : ws.length ≤ 9223372036854775807) (hP : PrsW w) (hT : TabW w) :
    Calls Tryd.prog 8 #[.agg #[.int .i64 N, .int .i64 T, .int .i64 E, v], u, .int .i64 at_] w fun e w' => e = .returned (.bool true) ∧ Old w w' := by
  obtain ⟨a0, c0, rfl⟩ := hv.slice
  obtain ⟨a1, c1, eu⟩ := hu.slice
  subst eu
  have bnd : ∀ {A : Prop}, ¬ (1048576 : Int) < (ws.length : Int) → ¬ leftN 1048576 xs.length < 0 → (xs.length ≤ 1048576 → ws.length ≤ 1048576 → A) → A := fun h0 h1 k => by
    obtain ⟨q1, q2, q3⟩ := leftN_ok h1 (by omega)
    exact k (by omega) (by omega)
  have hz := len_sec N T E xs ws at_
  refine law9_SecretFrom w N T E xs.length a0 c0 ws.length a1 c1 at_ (aL (secA N T E xs ws at_)).length (aK (secA N T E xs ws at_)) (secA N T E xs ws at_).isSome (leftN 1048576 xs.length)
    (fun _ W g => kp_sz N T E a0 xs.length c0 1048576 W hl (by omega) (by omega))
    (XP N T E xs) (far_XP N T E xs) shape_XP (fun h0 h1 W g => bnd h0 h1 fun h3 _ => kp_to N T E xs _ W (hv.old g) h3) (fun h0 h1 W lo hi g lo' hi' g' k k' => bnd h0 h1 fun h3 _ => kp_eq N T E xs W lo hi g lo' hi' g' k k' (by omega))
    (1 + xs.length) (by omega) (fun h0 h1 W lo hi g k => bnd h0 h1 fun h3 _ => kp_mark N T E xs 1 W lo hi g k h3 (by omega) (by omega))
    (XI ws) (far_XI ws) shape_XI (fun h0 h1 W g => bnd h0 h1 fun _ h3 => ki_to ws _ W (hu.old g) h3) (fun h0 h1 W lo hi g lo' hi' g' k k' => bnd h0 h1 fun _ h3 => ki_eq ws W lo hi g lo' hi' g' k k' (by omega))
    (1 + xs.length + ws.length) (by omega) (fun h0 h1 W lo hi g k => bnd h0 h1 fun h2 h3 => ki_mark ws (1 + xs.length) W lo hi g k h3 (by omega) (by omega))
    (YI (aL (secA N T E xs ws at_))) (far_YI _) shape_YI (YI (aL (secA N T E xs ws at_))) (far_YI _) shape_YI (YM 1 (aL (secA N T E xs ws at_)).length) (far_YM _ _) shape_YM
    (fun h0 h1 W lo hi g lo1 hi1 g1 k k1 _ => ?_) (fun h0 h1 W lo hi g lo1 hi1 g1 k k1 q => ?_)
    (fun h0 h1 W lo hi p lo' hi' p' k k' => yi_eq _ W lo hi p lo' hi' p' k k' (by omega))
    (1 + (aL (secA N T E xs ws at_)).length) (by omega) (fun h0 h1 W lo hi p k => yi_mark _ 1 W lo hi p k (by omega) (by omega) (by omega))
    (fun h0 h1 W lo hi p k => ym_held _ 1 W lo hi p k (by omega) (by omega) (by omega))
  · obtain ⟨a, c, rfl, o, f⟩ := k
    obtain ⟨a', c', rfl, o', f'⟩ := k1
    exact (spec_SecretFrom N T E xs ws _ _ at_ W o.row f hl hx o'.row hs).mono fun e w' ⟨v', h1, h2, h3⟩ => ⟨v', h1, h2, yi_of h3⟩
  · obtain ⟨a, c, rfl, o, f⟩ := k
    obtain ⟨a', c', rfl, o', f'⟩ := k1
    exact (impl_SecretFrom N T E xs ws _ _ at_ W (hP.old q) (hT.old q) o.row f hl o'.row f' hs).mono fun e w' ⟨v', h1, h2, h3⟩ => ⟨v', h1, h2, yi_of h3⟩
end Go.Proofs.YtinldhoimnbkhaaDoor
/- Proved: the two tables that the program's text lays, read; a ring and a list of numbers that come in, opened; a world in which the tables are laid. -/
namespace Go.Proofs.YtinldhoimnbkhaaDoor
open Go.ChangeShapes Go.WideShapes Go.ChangeAt Go.RowKit Go.Joins
set_option linter.unusedVariables false
set_option linter.unusedSimpArgs false
set_option maxRecDepth 100000
theorem open_row {H : Type} {enc : TypeId × Value → H} {W : World} {base : Nat} {v : Value} {d : DataW H} {p : List MemPlace} (hok : Value.okWide Tryd.prog W .any base 22 v)
    (h : DataW.Trod enc Tryd.prog W 0 (fun _ => true) true 22 v d p) : ∃ xs, Row W v xs ∧ xs.length ≤ 9223372036854775807 ∧ ∀ n ∈ xs, (Lit.int .i64 n).wf = true := by
  obtain ⟨a0, len0, cap0, rfl⟩ := okWide_slice Tryd.underlying22 hok
  obtain ⟨fuel, hf⟩ := h
  rcases open_ints Tryd.underlying22 Tryd.underlying3 cellsIntT hf with ⟨hcs, _⟩ | ⟨x, l, c, zs, hcs, _, hl, hm, hz, _, hcell, hwz⟩
  · simp [Value.cells] at hcs
    obtain ⟨rfl, rfl, rfl⟩ := hcs
    exact ⟨[], Or.inl ⟨none, 0, rfl, rfl⟩, by simp, by simp⟩
  · simp [Value.cells] at hcs
    obtain ⟨rfl, rfl, rfl⟩ := hcs
    have hz' : zs.length = cap0 := by simpa using hz
    refine ⟨zs.take len0, row_of_ints hl hz' hcell, ?_, fun n hn => hwz n (List.mem_of_mem_take hn)⟩
    rw [List.length_take]
    have : cap0 ≤ 2 ^ 63 - 1 := hm
    omega
theorem open_intW {H : Type} {enc : TypeId × Value → H} {W : World} {base : Nat} {v : Value} {d : DataW H} {p : List MemPlace} (hok : Value.okWide Tryd.prog W .any base 3 v)
    (h : DataW.Trod enc Tryd.prog W 0 (fun _ => true) true 3 v d p) : ∃ a : Int, v = .int .i64 a ∧ (Lit.int .i64 a).wf = true := by
  obtain ⟨a, rfl, _, _, wa⟩ := open_int Tryd.underlying3 hok h
  exact ⟨a, rfl, wa⟩
end Go.Proofs.YtinldhoimnbkhaaDoor
