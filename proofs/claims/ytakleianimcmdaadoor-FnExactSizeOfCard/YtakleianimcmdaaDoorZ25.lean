/- Proved: several texts in one: what each proves is said ahead of it. -/
import Derived.Test.YtakleianimcmdaaDoorRcr
import Derived.Test.YtakleianimcmdaaDoorRRs3
import Derived.Test.YtakleianimcmdaaDoorZ02
import Derived.Test.YtakleianimcmdaaDoorZ24
import Derived.Test.YtakleianimcmdaaDoorProdI
import Derived.Test.YtakleianimcmdaaDoorSzOut
import Derived.Test.YtakleianimcmdaaDoorZ05
import Derived.Test.YtakleianimcmdaaDoorMlr
import Derived.KernelRfl
import Derived.BigRegion
import Derived.BigQuiet
/- Proved: the contract of the program's reckonerOf. -/
namespace Go.Proofs.YtakleianimcmdaaDoor
open Go.ChangeShapes Go.WideShapes Go.ChangeAt Go.RowKit
open M2
set_option linter.unusedVariables false
set_option linter.unusedSimpArgs false
theorem wholeF_any2 (n : Nat) (w : World) (hn : cnt n ≤ 80) :
    Calls Tryd.prog 34 #[.bool false, .agg (szV n)] w fun e w' => ∃ v, e = .returned (.agg #[.bool false, v]) ∧ Old w w' ∧ Own w' w.heap.size v (toI (dig n)) := by
  by_cases h0 : n = 0
  · subst h0
    refine (whole_none false w).mono ?_
    rintro e w1 ⟨rfl, g1⟩
    refine ⟨_, rfl, g1, ?_⟩
    rw [dig_zero]
    exact nil_own _ _
  · exact whole_some false n w h0 hn
theorem bk_put7 {w : World} {k : Nat} {x0 x1 x2 x3 x4 x5 x6 : Value} {t : TypeId} (h : Bk w k #[x0, x1, x2, x3, x4, x5, x6] t) (y0 y1 y2 y3 y4 y5 y6 : Value) : Bk (((((((w.setCell ⟨k, 0, none⟩ y0).setCell ⟨k, 1, none⟩ y1).setCell ⟨k, 2, none⟩ y2).setCell ⟨k, 3, none⟩ y3).setCell ⟨k, 4, none⟩ y4).setCell ⟨k, 5, none⟩ y5).setCell ⟨k, 6, none⟩ y6) k #[y0, y1, y2, y3, y4, y5, y6] t := by
  have h0 : Bk (w.setCell ⟨k, 0, none⟩ y0) k #[y0, x1, x2, x3, x4, x5, x6] t := (heap_setCell_same w k 0 _ _ y0 h).trans rfl
  have h1 : Bk ((w.setCell ⟨k, 0, none⟩ y0).setCell ⟨k, 1, none⟩ y1) k #[y0, y1, x2, x3, x4, x5, x6] t := (heap_setCell_same (w.setCell ⟨k, 0, none⟩ y0) k 1 _ _ y1 h0).trans rfl
  have h2 : Bk (((w.setCell ⟨k, 0, none⟩ y0).setCell ⟨k, 1, none⟩ y1).setCell ⟨k, 2, none⟩ y2) k #[y0, y1, y2, x3, x4, x5, x6] t := (heap_setCell_same ((w.setCell ⟨k, 0, none⟩ y0).setCell ⟨k, 1, none⟩ y1) k 2 _ _ y2 h1).trans rfl
  have h3 : Bk ((((w.setCell ⟨k, 0, none⟩ y0).setCell ⟨k, 1, none⟩ y1).setCell ⟨k, 2, none⟩ y2).setCell ⟨k, 3, none⟩ y3) k #[y0, y1, y2, y3, x4, x5, x6] t := (heap_setCell_same (((w.setCell ⟨k, 0, none⟩ y0).setCell ⟨k, 1, none⟩ y1).setCell ⟨k, 2, none⟩ y2) k 3 _ _ y3 h2).trans rfl
  have h4 : Bk (((((w.setCell ⟨k, 0, none⟩ y0).setCell ⟨k, 1, none⟩ y1).setCell ⟨k, 2, none⟩ y2).setCell ⟨k, 3, none⟩ y3).setCell ⟨k, 4, none⟩ y4) k #[y0, y1, y2, y3, y4, x5, x6] t := (heap_setCell_same ((((w.setCell ⟨k, 0, none⟩ y0).setCell ⟨k, 1, none⟩ y1).setCell ⟨k, 2, none⟩ y2).setCell ⟨k, 3, none⟩ y3) k 4 _ _ y4 h3).trans rfl
  have h5 : Bk ((((((w.setCell ⟨k, 0, none⟩ y0).setCell ⟨k, 1, none⟩ y1).setCell ⟨k, 2, none⟩ y2).setCell ⟨k, 3, none⟩ y3).setCell ⟨k, 4, none⟩ y4).setCell ⟨k, 5, none⟩ y5) k #[y0, y1, y2, y3, y4, y5, x6] t := (heap_setCell_same (((((w.setCell ⟨k, 0, none⟩ y0).setCell ⟨k, 1, none⟩ y1).setCell ⟨k, 2, none⟩ y2).setCell ⟨k, 3, none⟩ y3).setCell ⟨k, 4, none⟩ y4) k 5 _ _ y5 h4).trans rfl
  have h6 : Bk (((((((w.setCell ⟨k, 0, none⟩ y0).setCell ⟨k, 1, none⟩ y1).setCell ⟨k, 2, none⟩ y2).setCell ⟨k, 3, none⟩ y3).setCell ⟨k, 4, none⟩ y4).setCell ⟨k, 5, none⟩ y5).setCell ⟨k, 6, none⟩ y6) k #[y0, y1, y2, y3, y4, y5, y6] t := (heap_setCell_same ((((((w.setCell ⟨k, 0, none⟩ y0).setCell ⟨k, 1, none⟩ y1).setCell ⟨k, 2, none⟩ y2).setCell ⟨k, 3, none⟩ y3).setCell ⟨k, 4, none⟩ y4).setCell ⟨k, 5, none⟩ y5) k 6 _ _ y6 h5).trans rfl
  exact h6
def RkA (N T E : Int) (xs : List Int) (Rf : Nat → Int) (v : Value) (w : World) (e : Ending) (w' : World) : Prop :=
  Old w w' ∧ ((prB N T E xs = false ∧ e = .returned (.tuple #[.agg rk0, .bool false])) ∨ (prB N T E xs = true ∧ ∃ g a l c, w.heap.size ≤ g ∧ e = .returned (.tuple #[.agg #[.int .i64 N, .int .i64 T, .int .i64 E, v, .slice (some ⟨g, 0, none⟩) xs.length xs.length, .bool false, .slice a l c], .bool true]) ∧ Rgs w' g N xs Rf xs.length ∧ ∃ ps, xs = toZ ps ∧ Bas ps ∧ l = (dig (prodN ps)).length ∧ Own w' w.heap.size (.slice a l c) (toI (dig (prodN ps)))))
set_option maxRecDepth 100000 in
set_option maxHeartbeats 4000000 in
theorem impl_reckonerOf (N T E : Int) (xs : List Int) (Rf : Nat → Int) (v : Value) (w : World) (hP : PrsW w) (hT : TabW w) (hv : Row w v xs) (hf : Fit v) (hl : xs.length ≤ 9223372036854775807)
    (hRf : ∀ k, RingOk (xs.getD k 0) N → (0 ≤ Rf k ∧ Rf k < xs.getD k 0) ∧ (∀ W, PrsW W → TabW W → Calls Tryd.prog 59 #[.int .i64 (xs.getD k 0), .int .i64 N] W fun e w' => e = .returned (.tuple #[.agg #[.int .i64 (xs.getD k 0), .int .i64 N, .int .i64 (Rf k)], .bool true]) ∧ Old W w')) :
    Calls Tryd.prog 19 #[.agg #[.int .i64 N, .int .i64 T, .int .i64 E, v]] w (RkA N T E xs Rf v w) := by
  obtain ⟨a0, c0, rfl⟩ := hv.slice
  have K1 := fun W (g : Old w W) => impl_ringsOfParams N T E xs Rf _ W (hP.old g) (hT.old g) (hv.old g) hf hl hRf
  have HA : Hid (Old w ((w.alloc (.cells #[.int .i64 N, .int .i64 T, .int .i64 E, .slice a0 xs.length c0] 28)).alloc (.cells rk0 49))) := ((Old.refl w).alloc _).alloc _
  have BA : Hid (Bk ((w.alloc (.cells #[.int .i64 N, .int .i64 T, .int .i64 E, .slice a0 xs.length c0] 28)).alloc (.cells rk0 49)) w.heap.size #[.int .i64 N, .int .i64 T, .int .i64 E, .slice a0 xs.length c0] 28) := (Bk.new' w _ _ rfl).alloc _
  have BB : Hid (Bk ((w.alloc (.cells #[.int .i64 N, .int .i64 T, .int .i64 E, .slice a0 xs.length c0] 28)).alloc (.cells rk0 49)) (w.heap.size + 1) rk0 49) := Bk.new' _ _ _ (by simp)
  have HV : Hid (Row w (.slice a0 xs.length c0) xs) := hv
  clear hP hT hv hf hRf
  go_enter Tryd.func19, Tryd.ntmps19
  go_wp2_with fail
  refine (K1 _ HA.out).mono ?_
  rintro e w1 ⟨g1, h⟩
  have HG1 : Hid (Old w w1) := Old.trans HA.out g1
  have B1 : Hid (Bk w1 w.heap.size #[.int .i64 N, .int .i64 T, .int .i64 E, .slice a0 xs.length c0] 28) := BA.out.old g1
  have B2 : Hid (Bk w1 (w.heap.size + 1) rk0 49) := BB.out.old g1
  have hs1 : w.heap.size + 2 ≤ w1.heap.size := by have := g1.size; simp at this; omega
  clear g1 K1 BA BB
  rcases h with ⟨hB, rfl⟩ | ⟨hB, g, hg, rfl, hrg⟩
  · have HB : Hid (prB N T E xs = false) := hB
    have y0 := B2.out.c (i := 0) rfl
    have y1 := B2.out.c (i := 1) rfl
    have y2 := B2.out.c (i := 2) rfl
    have y3 := B2.out.c (i := 3) rfl
    have y4 := B2.out.c (i := 4) rfl
    have y5 := B2.out.c (i := 5) rfl
    have y6 := B2.out.c (i := 6) rfl
    have f0 : w1.frozen? ⟨w.heap.size + 1, 0, none⟩ = false := frozen_of_row _ _ _ _ _ B2.out
    have f1 : w1.frozen? ⟨w.heap.size + 1, 1, none⟩ = false := frozen_of_row _ _ _ _ _ B2.out
    have f2 : w1.frozen? ⟨w.heap.size + 1, 2, none⟩ = false := frozen_of_row _ _ _ _ _ B2.out
    have f3 : w1.frozen? ⟨w.heap.size + 1, 3, none⟩ = false := frozen_of_row _ _ _ _ _ B2.out
    have f4 : w1.frozen? ⟨w.heap.size + 1, 4, none⟩ = false := frozen_of_row _ _ _ _ _ B2.out
    have f5 : w1.frozen? ⟨w.heap.size + 1, 5, none⟩ = false := frozen_of_row _ _ _ _ _ B2.out
    have f6 : w1.frozen? ⟨w.heap.size + 1, 6, none⟩ = false := frozen_of_row _ _ _ _ _ B2.out
    clear hB
    go_wp2_with fail
    have HF := bk_put7 B2.out (.int .i64 0) (.int .i64 0) (.int .i64 0) (.slice none 0 0) (.slice none 0 0) (.bool false) (.slice none 0 0)
    have q0 := HF.c (i := 0) rfl
    have q1 := HF.c (i := 1) rfl
    have q2 := HF.c (i := 2) rfl
    have q3 := HF.c (i := 3) rfl
    have q4 := HF.c (i := 4) rfl
    have q5 := HF.c (i := 5) rfl
    have q6 := HF.c (i := 6) rfl
    refine bodyPost_ret (v := .tuple #[.agg rk0, .bool false]) (by simp [results, Tryd.results19, go_sem, q0, q1, q2, q3, q4, q5, q6]) rfl ⟨?_, .inl ⟨HB.out, rfl⟩⟩
    exact ((((((HG1.out.own (p := ⟨w.heap.size + 1, 0, none⟩) (by simp) _).own (p := ⟨w.heap.size + 1, 1, none⟩) (by simp) _).own (p := ⟨w.heap.size + 1, 2, none⟩) (by simp) _).own (p := ⟨w.heap.size + 1, 3, none⟩) (by simp) _).own (p := ⟨w.heap.size + 1, 4, none⟩) (by simp) _).own (p := ⟨w.heap.size + 1, 5, none⟩) (by simp) _).own (p := ⟨w.heap.size + 1, 6, none⟩) (by simp) _
  · have hsp : spB N xs = true := by
      unfold prB at hB
      rw [Bool.and_eq_true] at hB
      exact hB.1
    obtain ⟨ps, exs, hbas⟩ := basB_yes (sp_ring hsp).2.1
    have c2 : ∀ W, Row W (.slice a0 xs.length c0) xs → Calls Tryd.prog 35 #[.slice a0 xs.length c0] W fun e w' => e = .returned (.agg (szV (prodN ps))) ∧ Old W w' := fun W h => productSize_sz ps _ W (by rw [← exs]; exact h) hbas.len6 hbas.hi
    have c3 := fun W => wholeF_any2 (prodN ps) W (Nat.le_trans hbas.cnt (by omega))
    have HPS : Hid (xs = toZ ps ∧ Bas ps) := ⟨exs, hbas⟩
    have HB : Hid (prB N T E xs = true) := hB
    have HRG : Hid (Rgs w1 g N xs Rf xs.length) := hrg
    have hgl : g < w1.heap.size := hrg.lt
    have hg2 : w.heap.size + 2 ≤ g := by simp at hg; omega
    have hgn : g ≠ w.heap.size + 1 := by omega
    have HLN : Hid ((toI (dig (prodN ps))).length = (dig (prodN ps)).length) := toI_len _
    obtain ⟨ds, hds⟩ : ∃ ds, toI (dig (prodN ps)) = ds := ⟨_, rfl⟩
    have HDS : Hid (toI (dig (prodN ps)) = ds) := hds
    rw [hds] at c3 HLN
    clear hds
    clear hB exs hbas hrg hg hsp
    generalize szV (prodN ps) = SZ at *
    go_wp2_with fail
    refine reg_rk4 w1 w.heap.size (w.heap.size + 1) N T E a0 xs.length c0 (some ⟨g, 0, none⟩) xs.length xs.length SZ ds B1.out B2.out (fun W q => (c2 W (HV.out.old (Old.trans HG1.out q))).mono fun e w' h => ⟨_, h.1, rfl, h.2⟩) (fun W => (c3 W).mono fun e w' h => by
      obtain ⟨v, rfl, q, o⟩ := h
      obtain ⟨a, c, rfl⟩ := (Own.row o).slice
      exact ⟨_, rfl, a, c, rfl, q, o⟩) _ _ ?_ ?_ ?_ ?_ ?_
    iterate 4 (· exact rfl)
    intro us W a6 c6 q6 o6
    simp only [putAll, Act.put, slotRk, List.range, List.range.loop, List.map_cons, List.map_nil, List.getD_cons_zero, List.getD_cons_succ, List.setIfInBounds_toArray, List.set_cons_succ, List.set_cons_zero]
    have hz : W.heap[w.heap.size + 1]? = some (.cells rk0 49 (0, 0)) := B2.out.old q6
    have HF : Bk (W.setRow (w.heap.size + 1) #[.int .i64 N, .int .i64 T, .int .i64 E, .slice a0 xs.length c0, .slice (some ⟨g, 0, none⟩) xs.length xs.length, .bool false, .slice a6 ds.length c6]) (w.heap.size + 1) #[.int .i64 N, .int .i64 T, .int .i64 E, .slice a0 xs.length c0, .slice (some ⟨g, 0, none⟩) xs.length xs.length, .bool false, .slice a6 ds.length c6] 49 := heap_setRow_same hz
    have HO : Hid (Own (W.setRow (w.heap.size + 1) #[.int .i64 N, .int .i64 T, .int .i64 E, .slice a0 xs.length c0, .slice (some ⟨g, 0, none⟩) xs.length xs.length, .bool false, .slice a6 ds.length c6]) w.heap.size (.slice a6 ds.length c6) ds) := own_farB (Own.low o6 (by omega)) (fun b hb => heap_setRow_other _ _ _ _ (by have := (o6.lt b hb).1; omega))
    have HRG6 : Hid (Rgs (W.setRow (w.heap.size + 1) #[.int .i64 N, .int .i64 T, .int .i64 E, .slice a0 xs.length c0, .slice (some ⟨g, 0, none⟩) xs.length xs.length, .bool false, .slice a6 ds.length c6]) g N xs Rf xs.length) := (HRG.out.old q6).same (heap_setRow_other _ _ _ _ (by omega))
    have HOL : Hid (Old w (W.setRow (w.heap.size + 1) #[.int .i64 N, .int .i64 T, .int .i64 E, .slice a0 xs.length c0, .slice (some ⟨g, 0, none⟩) xs.length xs.length, .bool false, .slice a6 ds.length c6])) := old_setRow (Old.trans HG1.out q6) (by omega) _
    have q0 := HF.c (i := 0) rfl
    have q1 := HF.c (i := 1) rfl
    have q2 := HF.c (i := 2) rfl
    have q3 := HF.c (i := 3) rfl
    have q4 := HF.c (i := 4) rfl
    have q5 := HF.c (i := 5) rfl
    have q7 := HF.c (i := 6) rfl
    clear HF hz o6 q6 c2 c3
    generalize (W.setRow (w.heap.size + 1) #[.int .i64 N, .int .i64 T, .int .i64 E, .slice a0 xs.length c0, .slice (some ⟨g, 0, none⟩) xs.length xs.length, .bool false, .slice a6 ds.length c6]) = WF at *
    go_wp2_with fail
    refine bodyPost_ret (v := .tuple #[.agg #[.int .i64 N, .int .i64 T, .int .i64 E, .slice a0 xs.length c0, .slice (some ⟨g, 0, none⟩) xs.length xs.length, .bool false, .slice a6 ds.length c6], .bool true]) (by simp [results, Tryd.results19, go_sem, q0, q1, q2, q3, q4, q5, q7]) rfl ⟨HOL.out, .inr ⟨HB.out, g, a6, ds.length, c6, by omega, rfl, HRG6.out, ps, HPS.out.1, HPS.out.2, HLN.out, ?_⟩⟩
    rw [HDS.out]
    exact HO.out
end Go.Proofs.YtakleianimcmdaaDoor
/- Proved: drawn regions of the program's SizeOf. -/
namespace Go.Proofs.YtakleianimcmdaaDoor
open Go.ChangeShapes Go.WideShapes Go.ChangeAt Go.RowKit
set_option linter.unusedVariables false
set_option linter.unusedSimpArgs false
def slotZo (i : Nat) : Nat := [28, 29, 30, 31, 32, 33, 34, 6, 7].getD i 0
theorem slotZo_lt : ∀ i, i < 9 → slotZo i < 35 := by decide
theorem slotZo_inj : ∀ i, i < 9 → ∀ j, j < 9 → slotZo i = slotZo j → i = j := by decide
theorem slotZo_no1 : ∀ i, i < 9 → slotZo i ≠ 1 := by decide
theorem slotZo_no2 : ∀ i, i < 9 → slotZo i ≠ 2 := by decide
theorem slotZo_no8 : ∀ i, i < 9 → slotZo i ≠ 8 := by decide
def qZo (N T E : Int) (a3 : Option Addr) (l3 c3 : Nat) (a4 : Option Addr) (l4 c4 : Nat) (a6 : Option Addr) (l6 c6 bx : Nat) (kd pt hs cs rs : Int)  (i : Nat) (W : World) (x : Value) : Prop :=
  match i with
  | 0 => x = .agg #[.int .i64 N, .int .i64 T, .int .i64 E, .slice a3 l3 c3, .slice a4 l4 c4, .bool false, .slice a6 l6 c6]
  | 1 => x = .int .i64 hs
  | 2 => x = .agg #[.int .i64 N, .int .i64 T, .int .i64 E, .slice a3 l3 c3, .slice a4 l4 c4, .bool false, .slice a6 l6 c6]
  | 3 => x = .int .i64 kd
  | 4 => x = .int .i64 pt
  | 5 => x = .int .i64 cs
  | 6 => x = .int .i64 rs
  | 7 => x = .int .i64 rs
  | 8 => x = .bool true
  | _ => True
theorem qZo_old (N T E : Int) (a3 : Option Addr) (l3 c3 : Nat) (a4 : Option Addr) (l4 c4 : Nat) (a6 : Option Addr) (l6 c6 bx : Nat) (kd pt hs cs rs : Int)   (i : Nat) (W W' : World) (x : Value) (h : qZo N T E a3 l3 c3 a4 l4 c4 a6 l6 c6 bx kd pt hs cs rs  i W x) (qo : Old W W') : qZo N T E a3 l3 c3 a4 l4 c4 a6 l6 c6 bx kd pt hs cs rs  i W' x := by
  unfold qZo at h ⊢
  split at h
  all_goals first | exact h | trivial
set_option maxRecDepth 100000 in
set_option maxHeartbeats 8000000 in
theorem reg_Zo (w0 : World) (N T E : Int) (a3 : Option Addr) (l3 c3 : Nat) (a4 : Option Addr) (l4 c4 : Nat) (a6 : Option Addr) (l6 c6 bx : Nat) (kd pt hs cs rs : Int)     (b_bx : w0.heap[bx]? = some (.cells #[.int .i64 N, .int .i64 T, .int .i64 E, .slice a3 l3 c3, .slice a4 l4 c4, .bool false, .slice a6 l6 c6] 49 (0, 0))) 
    (hrs : hs + cs = rs) (hb : 0 ≤ hs ∧ hs ≤ 1000000 ∧ 0 ≤ cs ∧ cs ≤ 1000000)
    (KH : ∀ W, Old w0 W → Calls Tryd.prog 22 #[.agg #[.int .i64 N, .int .i64 T, .int .i64 E, .slice a3 l3 c3, .slice a4 l4 c4, .bool false, .slice a6 l6 c6]] W fun e w' => e = .returned (.int .i64 hs) ∧ Old W w')
    (KC : ∀ W, Old w0 W → Calls Tryd.prog 23 #[.agg #[.int .i64 N, .int .i64 T, .int .i64 E, .slice a3 l3 c3, .slice a4 l4 c4, .bool false, .slice a6 l6 c6], .int .i64 kd, .int .i64 pt] W fun e w' => e = .returned (.int .i64 cs) ∧ Old W w')
    (Q : Exit → Act → World → Prop) (b0 : Act) (hsz : b0.tmps.size = 35) (ha1 : b0.eval (.tmp 1) = .int .i64 kd) (ha2 : b0.eval (.tmp 2) = .int .i64 pt) (ha8 : b0.eval (.tmp 8) = .pointer (some ⟨bx, 0, none⟩))
    (HK : Hid (∀ (us : Nat → Value) (W : World) , Old w0 W → us 7 = .int .i64 rs → us 8 = .bool true → Q .normal (putAll b0 ((List.range 9).map fun i => (slotZo i, us i))) W)) :
    Code.wp Tryd.prog ((Tryd.f8.body.bind (regionAtmul 4)).getD .skip) Q b0 w0 := by
  conv => arg 2; whnf
  have px_bx : ∀ W, Old w0 W → W.heap[bx]? = some (.cells #[.int .i64 N, .int .i64 T, .int .i64 E, .slice a3 l3 c3, .slice a4 l4 c4, .bool false, .slice a6 l6 c6] 49 (0, 0)) := fun W g => (g.block bx (lt_of_some b_bx)).trans b_bx
  refine wp_region_old (by kernel_rfl) (by kernel_rfl) (by kernel_rfl) slotZo (fun i hi => by rw [hsz]; exact slotZo_lt i hi) (fun i j hi hj => slotZo_inj i hi j hj) (qZo N T E a3 l3 c3 a4 l4 c4 a6 l6 c6 bx kd pt hs cs rs  ) (qZo_old N T E a3 l3 c3 a4 l4 c4 a6 l6 c6 bx kd pt hs cs rs  ) ?_ ?_
  · refine ⟨?_, ?_, ?_, ?_, ?_, ?_, ?_, ?_, ?_, trivial⟩
    · intro a W g hF hd
      have e8 := (hF.same 8 slotZo_no8).trans ha8
      refine op_load (k := bx) e8 (px_bx W g) Tryd.underlying49 rfl (by kernel_rfl) ?_
      exact ⟨_, rfl, Old.refl _, rfl⟩
    · intro a W g hF hd
      have h0 : a.eval (.tmp 28) = .agg #[.int .i64 N, .int .i64 T, .int .i64 E, .slice a3 l3 c3, .slice a4 l4 c4, .bool false, .slice a6 l6 c6] := hd ⟨0, .data⟩ (by simp) rfl
      refine op_call_ret (R := fun v w' => v = .int .i64 hs ∧ Old W w') Tryd.call22 (vs := #[.agg #[.int .i64 N, .int .i64 T, .int .i64 E, .slice a3 l3 c3, .slice a4 l4 c4, .bool false, .slice a6 l6 c6]]) (by simp [h0]) ((KH W g).mono fun e w' h => ⟨_, h.1, rfl, h.2⟩) ?_
      rintro x w' ⟨rfl, g'⟩
      exact ⟨_, rfl, g', rfl⟩
    · intro a W g hF hd
      have e8 := (hF.same 8 slotZo_no8).trans ha8
      refine op_load (k := bx) e8 (px_bx W g) Tryd.underlying49 rfl (by kernel_rfl) ?_
      exact ⟨_, rfl, Old.refl _, rfl⟩
    · intro a W g hF hd
      have e1 := (hF.same 1 slotZo_no1).trans ha1
      refine op_move ?_
      exact ⟨_, rfl, Old.refl _, e1⟩
    · intro a W g hF hd
      have e2 := (hF.same 2 slotZo_no2).trans ha2
      refine op_move ?_
      exact ⟨_, rfl, Old.refl _, e2⟩
    · intro a W g hF hd
      have h2 : a.eval (.tmp 30) = .agg #[.int .i64 N, .int .i64 T, .int .i64 E, .slice a3 l3 c3, .slice a4 l4 c4, .bool false, .slice a6 l6 c6] := hd ⟨2, .data⟩ (by simp) rfl
      have h3 : a.eval (.tmp 31) = .int .i64 kd := hd ⟨3, .data⟩ (by simp) rfl
      have h4 : a.eval (.tmp 32) = .int .i64 pt := hd ⟨4, .data⟩ (by simp) rfl
      refine op_call_ret (R := fun v w' => v = .int .i64 cs ∧ Old W w') Tryd.call23 (vs := #[.agg #[.int .i64 N, .int .i64 T, .int .i64 E, .slice a3 l3 c3, .slice a4 l4 c4, .bool false, .slice a6 l6 c6], .int .i64 kd, .int .i64 pt]) (by simp [h2, h3, h4]) ((KC W g).mono fun e w' h => ⟨_, h.1, rfl, h.2⟩) ?_
      rintro x w' ⟨rfl, g'⟩
      exact ⟨_, rfl, g', rfl⟩
    · intro a W g hF hd
      have h1 : a.eval (.tmp 29) = .int .i64 hs := hd ⟨1, .data⟩ (by simp) rfl
      have h5 : a.eval (.tmp 33) = .int .i64 cs := hd ⟨5, .data⟩ (by simp) rfl
      obtain ⟨ρ, hρ⟩ : ∃ ρ, a.eval = ρ := ⟨_, rfl⟩
      rw [hρ] at h1 h5
      refine op_val ρ hρ (.int .i64 rs) ?_ ⟨_, rfl, Old.refl _, rfl⟩
      clear g hF hd hρ HK KH KC ha1 ha2 ha8 px_bx b_bx  
      go_simp
      all_goals (first | (rw [IntKind.wrap_i64]; omega) | (rw [IntKind.wrap_u64]; omega) | omega)
    · intro a W g hF hd
      refine op_assign ?_
      exact ⟨_, rfl, Old.refl _, hd ⟨6, .data⟩ (by simp) rfl⟩
    · intro a W g hF hd
      have c0 : a.eval (.const (.bool true)) = .bool true := rfl
      refine op_assign ?_
      exact ⟨_, rfl, Old.refl _, c0⟩
  · intro a W g hF hq
    have hput := fram_put (show Fram 9 slotZo b0 a from hF) (fun i j hi hj => slotZo_inj i hi j hj)
    have hk := HK.out (fun i => a.eval (.tmp (slotZo i))) W g  (hq 7 (by decide)) (hq 8 (by decide))
    rw [← hput] at hk
    exact hk
set_option maxRecDepth 100000 in
set_option maxHeartbeats 4000000 in
theorem isKind_any (m : Int) (w : World) (B : Bool) (hB : decide (1 ≤ m ∧ m ≤ 6) = B) : Calls Tryd.prog 20 #[.int .i64 m] w fun e w' => e = .returned (.bool B) ∧ w' = w := by
  by_cases h2 : 1 ≤ m
  · have d1 : decide ((1 : Int) ≤ m) = true := decide_eq_true h2
    have HBB : Hid (decide (m ≤ 6) = B) := by show _ = _; rw [← hB]; simp [h2]
    by_cases h3 : m ≤ 6
    · have d3 : decide (m ≤ 6) = true := decide_eq_true h3
      obtain rfl : B = true := by rw [← HBB.out]; exact d3
      clear hB HBB h2 h3
      go_enter Tryd.func20, Tryd.ntmps20
      go_wp2_with fail
      go_ret
      exact ⟨rfl, rfl⟩
    · have d3 : decide (m ≤ 6) = false := decide_eq_false h3
      obtain rfl : B = false := by rw [← HBB.out]; exact d3
      clear hB HBB h2 h3
      go_enter Tryd.func20, Tryd.ntmps20
      go_wp2_with fail
      go_ret
      exact ⟨rfl, rfl⟩
  · have d1 : decide ((1 : Int) ≤ m) = false := decide_eq_false h2
    obtain rfl : B = false := by rw [← hB]; exact decide_eq_false (fun h => h2 h.1)
    clear hB h2
    go_enter Tryd.func20, Tryd.ntmps20
    go_wp2_with fail
    go_ret
    exact ⟨rfl, rfl⟩
set_option maxRecDepth 100000 in
set_option maxHeartbeats 4000000 in
theorem isPart_any (m : Int) (w : World) (B : Bool) (hB : decide (2 ≤ m ∧ m ≤ 3) = B) : Calls Tryd.prog 36 #[.int .i64 m] w fun e w' => e = .returned (.bool B) ∧ w' = w := by
  by_cases h2 : 2 ≤ m
  · have d1 : decide ((2 : Int) ≤ m) = true := decide_eq_true h2
    have HBB : Hid (decide (m ≤ 3) = B) := by show _ = _; rw [← hB]; simp [h2]
    by_cases h3 : m ≤ 3
    · have d3 : decide (m ≤ 3) = true := decide_eq_true h3
      obtain rfl : B = true := by rw [← HBB.out]; exact d3
      clear hB HBB h2 h3
      go_enter Tryd.func36, Tryd.ntmps36
      go_wp2_with fail
      go_ret
      exact ⟨rfl, rfl⟩
    · have d3 : decide (m ≤ 3) = false := decide_eq_false h3
      obtain rfl : B = false := by rw [← HBB.out]; exact d3
      clear hB HBB h2 h3
      go_enter Tryd.func36, Tryd.ntmps36
      go_wp2_with fail
      go_ret
      exact ⟨rfl, rfl⟩
  · have d1 : decide ((2 : Int) ≤ m) = false := decide_eq_false h2
    obtain rfl : B = false := by rw [← hB]; exact decide_eq_false (fun h => h2 h.1)
    clear hB h2
    go_enter Tryd.func36, Tryd.ntmps36
    go_wp2_with fail
    go_ret
    exact ⟨rfl, rfl⟩
set_option maxRecDepth 100000 in
set_option maxHeartbeats 4000000 in
theorem mayParts_c (m : Int) (w : World) (B : Bool) (hB : decide (2 ≤ m ∧ m ≤ 3) = B) : Calls Tryd.prog 21 #[.int .i64 3, .int .i64 m] w fun e w' => e = .returned (.bool B) ∧ w' = w := by
  go_enter Tryd.func21, Tryd.ntmps21
  go_wp2_with (go_at_call 36; refine (isPart_any m _ B hB).mono ?_; rintro e w1 ⟨rfl, rfl⟩)
  go_ret
  exact ⟨rfl, rfl⟩
set_option maxRecDepth 100000 in
set_option maxHeartbeats 4000000 in
theorem mayParts_o (k m : Int) (w : World) (B : Bool) (hk : k ≠ 3) (hB : decide (m = 0) = B) : Calls Tryd.prog 21 #[.int .i64 k, .int .i64 m] w fun e w' => e = .returned (.bool B) ∧ w' = w := by
  have d1 : (k == 3) = false := by rw [beq_eq_false_iff_ne]; exact hk
  have d2 : decide (k = 3) = false := decide_eq_false hk
  by_cases h0 : m = 0
  · obtain rfl : B = true := by rw [← hB]; exact decide_eq_true h0
    subst h0
    clear hB
    go_enter Tryd.func21, Tryd.ntmps21
    go_wp2_with fail
    go_ret
    exact ⟨rfl, rfl⟩
  · obtain rfl : B = false := by rw [← hB]; exact decide_eq_false h0
    have d3 : (m == 0) = false := by rw [beq_eq_false_iff_ne]; exact h0
    clear hB
    go_enter Tryd.func21, Tryd.ntmps21
    go_wp2_with fail
    go_ret
    exact ⟨by simp [d3], rfl⟩
set_option maxRecDepth 100000 in
set_option maxHeartbeats 4000000 in
theorem headSize_any (N T E : Int) (a3 : Option Addr) (l3 c3 : Nat) (a4 : Option Addr) (l4 c4 : Nat) (a6 : Option Addr) (l6 c6 : Nat) (w : World) (hl : l3 ≤ 4) : Calls Tryd.prog 22 #[.agg #[.int .i64 N, .int .i64 T, .int .i64 E, .slice a3 l3 c3, .slice a4 l4 c4, .bool false, .slice a6 l6 c6]] w fun e w' => e = .returned (.int .i64 (11 + 4 * (l3 : Int))) ∧ Old w w' := by
  go_enter Tryd.func22, Tryd.ntmps22
  go_wp2_with fail
  go_ret
  exact ⟨by simp; omega, (Old.refl w).alloc _⟩
set_option maxRecDepth 100000 in
set_option maxHeartbeats 4000000 in
theorem pairCount_5 (N T E : Int) (a3 : Option Addr) (l3 c3 : Nat) (a4 : Option Addr) (l4 c4 : Nat) (a6 : Option Addr) (l6 c6 : Nat) (w : World) : Calls Tryd.prog 37 #[.agg #[.int .i64 N, .int .i64 T, .int .i64 E, .slice a3 l3 c3, .slice a4 l4 c4, .bool false, .slice a6 l6 c6], .int .i64 5] w fun e w' => e = .returned (.int .i64 1) ∧ Old w w' := by
  go_enter Tryd.func37, Tryd.ntmps37
  go_wp2_with fail
  go_ret
  exact ⟨rfl, (Old.refl w).alloc _⟩
set_option maxRecDepth 100000 in
set_option maxHeartbeats 4000000 in
theorem pairCount_6 (N T E : Int) (a3 : Option Addr) (l3 c3 : Nat) (a4 : Option Addr) (l4 c4 : Nat) (a6 : Option Addr) (l6 c6 : Nat) (w : World) : Calls Tryd.prog 37 #[.agg #[.int .i64 N, .int .i64 T, .int .i64 E, .slice a3 l3 c3, .slice a4 l4 c4, .bool false, .slice a6 l6 c6], .int .i64 6] w fun e w' => e = .returned (.int .i64 (l3 : Int)) ∧ Old w w' := by
  go_enter Tryd.func37, Tryd.ntmps37
  go_wp2_with fail
  go_ret
  exact ⟨rfl, (Old.refl w).alloc _⟩
set_option maxRecDepth 100000 in
set_option maxHeartbeats 4000000 in
theorem pairCount_1 (N T E : Int) (a3 : Option Addr) (l3 c3 : Nat) (a4 : Option Addr) (l4 c4 : Nat) (a6 : Option Addr) (l6 c6 : Nat) (w : World) : Calls Tryd.prog 37 #[.agg #[.int .i64 N, .int .i64 T, .int .i64 E, .slice a3 l3 c3, .slice a4 l4 c4, .bool false, .slice a6 l6 c6], .int .i64 1] w fun e w' => e = .returned (.int .i64 0) ∧ Old w w' := by
  go_enter Tryd.func37, Tryd.ntmps37
  go_wp2_with fail
  go_ret
  exact ⟨rfl, (Old.refl w).alloc _⟩
set_option maxRecDepth 100000 in
set_option maxHeartbeats 4000000 in
theorem contentSize_2 (N T E : Int) (a3 : Option Addr) (l3 c3 : Nat) (a4 : Option Addr) (l4 c4 : Nat) (a6 : Option Addr) (l6 c6 : Nat) (pt : Int) (w : World) (hl : l3 ≤ 4) (hN : 2 ≤ N ∧ N ≤ 16) : Calls Tryd.prog 23 #[.agg #[.int .i64 N, .int .i64 T, .int .i64 E, .slice a3 l3 c3, .slice a4 l4 c4, .bool false, .slice a6 l6 c6], .int .i64 2, .int .i64 pt] w fun e w' => e = .returned (.int .i64 (N * 3)) ∧ Old w w' := by
  have m0 : 0 ≤ (l3 : Int) * N ∧ (l3 : Int) * N ≤ 64 := ⟨Int.mul_nonneg (by omega) (by omega), by
    have := Int.mul_le_mul (show (l3 : Int) ≤ 4 by omega) hN.2 (by omega) (by omega)
    omega⟩
  obtain ⟨p, hp⟩ : ∃ p, (l3 : Int) * N = p := ⟨_, rfl⟩
  rw [hp] at m0
  try rw [hp]
  go_enter Tryd.func23, Tryd.ntmps23
  go_wp2_with fail
  go_ret
  exact ⟨by first | rfl | (simp; done) | (simp; omega), (Old.refl w).alloc _⟩
set_option maxRecDepth 100000 in
set_option maxHeartbeats 4000000 in
theorem contentSize_4 (N T E : Int) (a3 : Option Addr) (l3 c3 : Nat) (a4 : Option Addr) (l4 c4 : Nat) (a6 : Option Addr) (l6 c6 : Nat) (pt : Int) (w : World) (hl : l3 ≤ 4) (hN : 2 ≤ N ∧ N ≤ 16) : Calls Tryd.prog 23 #[.agg #[.int .i64 N, .int .i64 T, .int .i64 E, .slice a3 l3 c3, .slice a4 l4 c4, .bool false, .slice a6 l6 c6], .int .i64 4, .int .i64 pt] w fun e w' => e = .returned (.int .i64 (N)) ∧ Old w w' := by
  have m0 : 0 ≤ (l3 : Int) * N ∧ (l3 : Int) * N ≤ 64 := ⟨Int.mul_nonneg (by omega) (by omega), by
    have := Int.mul_le_mul (show (l3 : Int) ≤ 4 by omega) hN.2 (by omega) (by omega)
    omega⟩
  obtain ⟨p, hp⟩ : ∃ p, (l3 : Int) * N = p := ⟨_, rfl⟩
  rw [hp] at m0
  try rw [hp]
  go_enter Tryd.func23, Tryd.ntmps23
  go_wp2_with fail
  go_ret
  exact ⟨by first | rfl | (simp; done) | (simp; omega), (Old.refl w).alloc _⟩
set_option maxRecDepth 100000 in
set_option maxHeartbeats 4000000 in
theorem contentSize_3 (N T E : Int) (a3 : Option Addr) (l3 c3 : Nat) (a4 : Option Addr) (l4 c4 : Nat) (a6 : Option Addr) (l6 c6 : Nat) (pt : Int) (hpt : 2 ≤ pt ∧ pt ≤ 3) (w : World) (hl : l3 ≤ 4) (hN : 2 ≤ N ∧ N ≤ 16) : Calls Tryd.prog 23 #[.agg #[.int .i64 N, .int .i64 T, .int .i64 E, .slice a3 l3 c3, .slice a4 l4 c4, .bool false, .slice a6 l6 c6], .int .i64 3, .int .i64 pt] w fun e w' => e = .returned (.int .i64 (pt * ((l3 : Int) * N * 4) + 2)) ∧ Old w w' := by
  have m0 : 0 ≤ (l3 : Int) * N ∧ (l3 : Int) * N ≤ 64 := ⟨Int.mul_nonneg (by omega) (by omega), by
    have := Int.mul_le_mul (show (l3 : Int) ≤ 4 by omega) hN.2 (by omega) (by omega)
    omega⟩
  obtain ⟨p, hp⟩ : ∃ p, (l3 : Int) * N = p := ⟨_, rfl⟩
  have m1 : 0 ≤ pt * (p * 4) ∧ pt * (p * 4) ≤ 768 := ⟨Int.mul_nonneg (by omega) (by omega), by
    have := Int.mul_le_mul hpt.2 (show p * 4 ≤ 256 by omega) (by omega) (by omega)
    omega⟩
  rw [hp] at m0
  try rw [hp]
  go_enter Tryd.func23, Tryd.ntmps23
  go_wp2_with fail
  go_ret
  exact ⟨by first | rfl | (simp; done) | (simp; omega), (Old.refl w).alloc _⟩
set_option maxRecDepth 100000 in
set_option maxHeartbeats 4000000 in
theorem contentSize_5 (N T E : Int) (a3 : Option Addr) (l3 c3 : Nat) (a4 : Option Addr) (l4 c4 : Nat) (a6 : Option Addr) (l6 c6 : Nat) (pt : Int) (w : World) (hl : l3 ≤ 4) (hN : 2 ≤ N ∧ N ≤ 16) : Calls Tryd.prog 23 #[.agg #[.int .i64 N, .int .i64 T, .int .i64 E, .slice a3 l3 c3, .slice a4 l4 c4, .bool false, .slice a6 l6 c6], .int .i64 5, .int .i64 pt] w fun e w' => e = .returned (.int .i64 (2 * ((l3 : Int) * N * 4))) ∧ Old w w' := by
  have m0 : 0 ≤ (l3 : Int) * N ∧ (l3 : Int) * N ≤ 64 := ⟨Int.mul_nonneg (by omega) (by omega), by
    have := Int.mul_le_mul (show (l3 : Int) ≤ 4 by omega) hN.2 (by omega) (by omega)
    omega⟩
  obtain ⟨p, hp⟩ : ∃ p, (l3 : Int) * N = p := ⟨_, rfl⟩
  rw [hp] at m0
  try rw [hp]
  go_enter Tryd.func23, Tryd.ntmps23
  go_wp2_with (go_at_call 37; refine (pairCount_5 N T E a3 l3 c3 a4 l4 c4 a6 l6 c6 _).mono ?_; rintro e w1 ⟨rfl, g1⟩)
  go_ret
  exact ⟨by first | rfl | (simp; done) | (simp; omega), Old.trans ((Old.refl w).alloc _) g1⟩
set_option maxRecDepth 100000 in
set_option maxHeartbeats 4000000 in
theorem contentSize_6 (N T E : Int) (a3 : Option Addr) (l3 c3 : Nat) (a4 : Option Addr) (l4 c4 : Nat) (a6 : Option Addr) (l6 c6 : Nat) (pt : Int) (w : World) (hl : l3 ≤ 4) (hN : 2 ≤ N ∧ N ≤ 16) : Calls Tryd.prog 23 #[.agg #[.int .i64 N, .int .i64 T, .int .i64 E, .slice a3 l3 c3, .slice a4 l4 c4, .bool false, .slice a6 l6 c6], .int .i64 6, .int .i64 pt] w fun e w' => e = .returned (.int .i64 ((l3 : Int) * 2 * ((l3 : Int) * N * 4))) ∧ Old w w' := by
  have m0 : 0 ≤ (l3 : Int) * N ∧ (l3 : Int) * N ≤ 64 := ⟨Int.mul_nonneg (by omega) (by omega), by
    have := Int.mul_le_mul (show (l3 : Int) ≤ 4 by omega) hN.2 (by omega) (by omega)
    omega⟩
  obtain ⟨p, hp⟩ : ∃ p, (l3 : Int) * N = p := ⟨_, rfl⟩
  have m1 : 0 ≤ (l3 : Int) * 2 * (p * 4) ∧ (l3 : Int) * 2 * (p * 4) ≤ 2048 := ⟨Int.mul_nonneg (by omega) (by omega), by
    have := Int.mul_le_mul (show (l3 : Int) * 2 ≤ 8 by omega) (show p * 4 ≤ 256 by omega) (by omega) (by omega)
    omega⟩
  rw [hp] at m0
  try rw [hp]
  go_enter Tryd.func23, Tryd.ntmps23
  go_wp2_with (go_at_call 37; refine (pairCount_6 N T E a3 l3 c3 a4 l4 c4 a6 l6 c6 _).mono ?_; rintro e w1 ⟨rfl, g1⟩)
  go_ret
  exact ⟨by first | rfl | (simp; done) | (simp; omega), Old.trans ((Old.refl w).alloc _) g1⟩
set_option maxRecDepth 100000 in
set_option maxHeartbeats 4000000 in
theorem contentSize_1 (N T E : Int) (a3 : Option Addr) (l3 c3 : Nat) (a4 : Option Addr) (l4 c4 : Nat) (a6 : Option Addr) (l6 c6 : Nat) (pt : Int) (w : World) (hl : l3 ≤ 4) (hN : 2 ≤ N ∧ N ≤ 16) : Calls Tryd.prog 23 #[.agg #[.int .i64 N, .int .i64 T, .int .i64 E, .slice a3 l3 c3, .slice a4 l4 c4, .bool false, .slice a6 l6 c6], .int .i64 1, .int .i64 pt] w fun e w' => e = .returned (.int .i64 (0)) ∧ Old w w' := by
  have m0 : 0 ≤ (l3 : Int) * N ∧ (l3 : Int) * N ≤ 64 := ⟨Int.mul_nonneg (by omega) (by omega), by
    have := Int.mul_le_mul (show (l3 : Int) ≤ 4 by omega) hN.2 (by omega) (by omega)
    omega⟩
  obtain ⟨p, hp⟩ : ∃ p, (l3 : Int) * N = p := ⟨_, rfl⟩
  rw [hp] at m0
  try rw [hp]
  go_enter Tryd.func23, Tryd.ntmps23
  go_wp2_with (go_at_call 37; refine (pairCount_1 N T E a3 l3 c3 a4 l4 c4 a6 l6 c6 _).mono ?_; rintro e w1 ⟨rfl, g1⟩)
  go_ret
  exact ⟨by first | rfl | (simp; done) | (simp; omega), Old.trans ((Old.refl w).alloc _) g1⟩
end Go.Proofs.YtakleianimcmdaaDoor
