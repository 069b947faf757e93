/- Proved: several texts in one: what each proves is said ahead of it. -/
import Derived.Test.YtakleianimcmdaaDoorZ12
import Derived.Test.YtakleianimcmdaaDoorZ00
import Derived.Test.YtakleianimcmdaaDoorZ01
import Derived.Test.YtakleianimcmdaaDoorRows
import Derived.WalkKit
import Derived.ProofKit
import Derived.OpenShut
import Derived.Handy
/- Proved: the contract of the program's ringsOf. -/
namespace Go.Proofs.YtakleianimcmdaaDoor
open Go.ChangeShapes Go.WideShapes Go.ChangeAt Go.RowKit
open M1
set_option linter.unusedVariables false
set_option linter.unusedSimpArgs false
theorem cellO (W : World) (p : Addr) (v : Value) (q : Addr) (h : q.block ≠ p.block) : (W.setCell p v).cell? q = W.cell? q := World.cell?_of_block (heap_setCell_other W p q.block v h)
set_option maxRecDepth 100000 in
set_option maxHeartbeats 4000000 in
theorem impl_rings (N : Int) (xs : List Int) (Rf : Nat → Int) (v : Value) (w : World) (hP : PrsW w) (hT : TabW w) (hv : Row w v xs) (hf : Fit v) (hl : xs.length ≤ 9223372036854775807)
    (hRf : ∀ k, RingOk (xs.getD k 0) N → (0 ≤ Rf k ∧ Rf k < xs.getD k 0) ∧ (∀ W, PrsW W → TabW W → Calls Tryd.prog 59 #[.int .i64 (xs.getD k 0), .int .i64 N] W fun e w' => e = .returned (.tuple #[.agg #[.int .i64 (xs.getD k 0), .int .i64 N, .int .i64 (Rf k)], .bool true]) ∧ Old W w')) :
    Calls Tryd.prog 46 #[.agg #[.int .i64 N, v]] w fun e w' => Old w w' ∧ ((spB N xs = false ∧ e = .returned (.tuple #[.slice none 0 0, .bool false])) ∨ (spB N xs = true ∧ ∃ g, w.heap.size ≤ g ∧ e = .returned (.tuple #[.slice (some ⟨g, 0, none⟩) xs.length xs.length, .bool true]) ∧ Rgs w' g N xs Rf xs.length)) := by
  have cb := fun W v (h1 : PrsW W) (h2 : TabW W) (h : Row W v xs) (f : Fit v) => impl_goodBasis xs v W h1 h2 h f hl
  have HP : Hid (PrsW w) := hP
  have HT : Hid (TabW w) := hT
  have HV : Hid (Row w v xs) := hv
  have HF : Hid (Fit v) := hf
  have HRF : Hid (∀ k, RingOk (xs.getD k 0) N → (0 ≤ Rf k ∧ Rf k < xs.getD k 0) ∧ (∀ W, PrsW W → TabW W → Calls Tryd.prog 59 #[.int .i64 (xs.getD k 0), .int .i64 N] W fun e w' => e = .returned (.tuple #[.agg #[.int .i64 (xs.getD k 0), .int .i64 N, .int .i64 (Rf k)], .bool true]) ∧ Old W w')) := hRf
  obtain ⟨a0, cap0, ev⟩ := hv.slice
  subst ev
  have HN : Hid (Old w (w.alloc (.cells #[.int .i64 N, .slice a0 xs.length cap0] 66))) := (Old.refl w).alloc _
  clear hP hT hv hf hRf
  cases hb : basB xs
  · rw [hb] at cb
    have HB : Hid (spB N xs = false) := by show spB N xs = false; unfold spB; rw [hb]; simp
    clear hb
    go_enter Tryd.func46, Tryd.ntmps46
    go_wp2_with fail
    refine (cb _ _ (HP.out.old HN.out) (HT.out.old HN.out) (HV.out.old HN.out) HF.out).mono ?_
    rintro e w1 ⟨rfl, g1⟩
    have HG1 : Hid (Old w w1) := Old.trans HN.out g1
    clear g1
    go_wp2_with fail
    exact bodyPost_ret (v := .tuple #[.slice none 0 0, .bool false]) (by simp [results, Tryd.results46, go_sem]) rfl ⟨HG1.out, Or.inl ⟨HB.out, rfl⟩⟩
  · rw [hb] at cb
    have HBB : Hid (basB xs = true) := hb
    have hlen := (bas_at hb).1
    obtain ⟨i0, hi, hz0, hz1, hz2⟩ := info_parts Tryd.infoRing
    clear hb
    go_enter Tryd.func46, Tryd.ntmps46
    go_wp2_with fail
    refine (cb _ _ (HP.out.old HN.out) (HT.out.old HN.out) (HV.out.old HN.out) HF.out).mono ?_
    rintro e w1 ⟨rfl, g1⟩
    have HG1 : Hid (Old w w1) := Old.trans HN.out g1
    have HS1 : Hid (w1.cell? ⟨w.heap.size, 0, none⟩ = some (.int .i64 N) ∧ w1.cell? ⟨w.heap.size, 1, none⟩ = some (.slice a0 xs.length cap0)) := ⟨(g1.cell (p := ⟨w.heap.size, 0, none⟩) (by simp)).trans (cell_at _ _ _ _ _ rfl), (g1.cell (p := ⟨w.heap.size, 1, none⟩) (by simp)).trans (cell_at _ _ _ _ _ rfl)⟩
    have hs1 : w.heap.size < w1.heap.size := by have := g1.size; simp at this; omega
    clear g1 cb
    rcases (HV.out) with ⟨a, cap, e, e2⟩ | ⟨b, o, cap, e, hb, h1, hc⟩
    · subst e2
      simp at hlen
    simp only [Value.slice.injEq, true_and] at e
    obtain ⟨rfl, rfl⟩ := e
    have HC : Hid (∀ j, j < xs.length → w.cell? ⟨b, o + j, none⟩ = some (.int .i64 (xs.getD j 0))) := hc
    clear hc
    have s0 := HS1.out.1
    have s1 := HS1.out.2
    go_wp2_with (at_make; refine wpList_make_full _ rfl _ _ 45 rfl w1.heap.size 101 i0 (.agg #[.int .i64 0, .int .i64 0, .int .i64 0]) 3 Tryd.underlying45 hi hz0 hz1 .i64 .i64 _ _ xs.length rfl rfl rfl rfl (by rw [hz2]; omega) (by unfold maxLen; omega) (Nat.le_refl _) ?_; intro w2 hown hgrow; have s0' : w2.cell? ⟨w.heap.size, 0, none⟩ = some (.int .i64 N) := ((grownBy_old hgrow).cell (p := ⟨w.heap.size, 0, none⟩) hs1).trans s0; have s1' : w2.cell? ⟨w.heap.size, 1, none⟩ = some (.slice (some ⟨b, o, none⟩) xs.length cap0) := ((grownBy_old hgrow).cell (p := ⟨w.heap.size, 1, none⟩) hs1).trans s1)
    obtain ⟨ys, hyl, hym⟩ := made_rings xs.length
    rw [hym] at hown
    have HRG : Hid (Rgs w2 w1.heap.size N xs Rf 0) := ⟨ys, hyl, hown, fun i hi => by omega⟩
    have HG2 : Hid (Old w w2) := Old.trans HG1.out (grownBy_old hgrow)
    have HS2 : Hid (w2.cell? ⟨w.heap.size, 0, none⟩ = some (.int .i64 N) ∧ w2.cell? ⟨w.heap.size, 1, none⟩ = some (.slice (some ⟨b, o, none⟩) xs.length cap0)) := ⟨s0', s1'⟩
    clear hown hgrow s0' s1' s0 s1 HS1 hym hyl
    go_loopw [20] (fun i W => ∃ k : Nat, k ≤ xs.length ∧ i = .int .i64 k ∧ Hid (∀ j, j < k → RingOk (xs.getD j 0) N) ∧ Hid (Rgs W w1.heap.size N xs Rf k) ∧ Hid (Old w W) ∧ Hid (W.cell? ⟨w.heap.size, 0, none⟩ = some (.int .i64 N) ∧ W.cell? ⟨w.heap.size, 1, none⟩ = some (.slice (some ⟨b, o, none⟩) xs.length cap0))) (fun i _ => xs.length - (intOf i).toNat)
    case atStart => exact ⟨0, by omega, rfl, fun j hj => by omega, HRG, HG2, HS2⟩
    case round =>
      obtain ⟨k, hk, rfl, H1, HR, HG, HS⟩ := hrel
      clear HRG HG2 HS2
      by_cases hlt : k < xs.length
      · have d1 : decide ((k : Int) < (xs.length : Int)) = true := by simp; omega
        have c1 : wr.cell? ⟨b, o + k, none⟩ = some (.int .i64 (xs.getD k 0)) := (HG.out.cell (p := ⟨b, o + k, none⟩) hb).trans (HC.out k hlt)
        have s0 := HS.out.1
        have s1 := HS.out.2
        have hsr : w.heap.size < wr.heap.size := by have := HR.out.lt; omega
        by_cases hok : RingOk (xs.getD k 0) N
        · have cr := (HRF.out k hok).2
          have H2 : Hid (∀ j, j < k + 1 → RingOk (xs.getD j 0) N) := fun j hj => by
            rcases Nat.lt_or_ge j k with h | h
            · exact H1.out j h
            · obtain rfl : j = k := by omega
              exact hok
          have HPUT : Hid (∀ W, Rgs W w1.heap.size N xs Rf k → Rgs (((W.setCell ⟨w1.heap.size, k * 3, none⟩ (.int .i64 (xs.getD k 0))).setCell ⟨w1.heap.size, k * 3 + 1, none⟩ (.int .i64 N)).setCell ⟨w1.heap.size, k * 3 + 2, none⟩ (.int .i64 (Rf k))) w1.heap.size N xs Rf (k + 1)) := fun W h => h.put hlt
          have HCR : Hid (∀ W, PrsW W → TabW W → Calls Tryd.prog 59 #[.int .i64 (xs.getD k 0), .int .i64 N] W fun e w' => e = .returned (.tuple #[.agg #[.int .i64 (xs.getD k 0), .int .i64 N, .int .i64 (Rf k)], .bool true]) ∧ Old W w') := cr
          clear H1 hok cr
          generalize xs.getD k 0 = p at *
          obtain ⟨r, hr⟩ : ∃ r, Rf k = r := ⟨_, rfl⟩
          rw [hr] at HPUT HCR
          clear hr
          go_wp2_with fail
          refine (HCR.out _ (HP.out.old HG.out) (HT.out.old HG.out)).mono ?_
          rintro e w3 ⟨rfl, g3⟩
          have g4 : Old wr (w3.alloc (.cells #[.int .i64 p, .int .i64 N, .int .i64 r] 101)) := g3.alloc _
          have HR4 : Hid (Rgs (w3.alloc (.cells #[.int .i64 p, .int .i64 N, .int .i64 r] 101)) w1.heap.size N xs Rf k) := HR.out.old g4
          have HG4 : Hid (Old w (w3.alloc (.cells #[.int .i64 p, .int .i64 N, .int .i64 r] 101))) := Old.trans HG.out g4
          have HS4 : Hid ((w3.alloc (.cells #[.int .i64 p, .int .i64 N, .int .i64 r] 101)).cell? ⟨w.heap.size, 0, none⟩ = some (.int .i64 N) ∧ (w3.alloc (.cells #[.int .i64 p, .int .i64 N, .int .i64 r] 101)).cell? ⟨w.heap.size, 1, none⟩ = some (.slice (some ⟨b, o, none⟩) xs.length cap0)) := ⟨(g4.cell (p := ⟨w.heap.size, 0, none⟩) hsr).trans HS.out.1, (g4.cell (p := ⟨w.heap.size, 1, none⟩) hsr).trans HS.out.2⟩
          obtain ⟨y0, q0⟩ := HR4.out.cell (k * 3) (by omega)
          obtain ⟨y1, q1⟩ := HR4.out.cell (k * 3 + 1) (by omega)
          obtain ⟨y2, q2⟩ := HR4.out.cell (k * 3 + 2) (by omega)
          have f0 := HR4.out.free (k * 3)
          have f1 := HR4.out.free (k * 3 + 1)
          have f2 := HR4.out.free (k * 3 + 2)
          clear g3 g4 s0 s1 c1
          have hne : w.heap.size ≠ w1.heap.size := by omega
          have HS5 : Hid (((((w3.alloc (.cells #[.int .i64 p, .int .i64 N, .int .i64 r] 101)).setCell ⟨w1.heap.size, k * 3, none⟩ (.int .i64 p)).setCell ⟨w1.heap.size, k * 3 + 1, none⟩ (.int .i64 N)).setCell ⟨w1.heap.size, k * 3 + 2, none⟩ (.int .i64 r)).cell? ⟨w.heap.size, 0, none⟩ = some (.int .i64 N) ∧ ((((w3.alloc (.cells #[.int .i64 p, .int .i64 N, .int .i64 r] 101)).setCell ⟨w1.heap.size, k * 3, none⟩ (.int .i64 p)).setCell ⟨w1.heap.size, k * 3 + 1, none⟩ (.int .i64 N)).setCell ⟨w1.heap.size, k * 3 + 2, none⟩ (.int .i64 r)).cell? ⟨w.heap.size, 1, none⟩ = some (.slice (some ⟨b, o, none⟩) xs.length cap0)) := ⟨(cellO _ _ _ _ hne).trans ((cellO _ _ _ _ hne).trans ((cellO _ _ _ _ hne).trans HS4.out.1)), (cellO _ _ _ _ hne).trans ((cellO _ _ _ _ hne).trans ((cellO _ _ _ _ hne).trans HS4.out.2))⟩
          clear hne
          go_wp2_with fail
          exact ⟨⟨k + 1, by omega, by go_num, H2, HPUT.out _ HR4.out, ((HG4.out.own (p := ⟨w1.heap.size, k * 3, none⟩) (by show w.heap.size ≤ w1.heap.size; omega) _).own (p := ⟨w1.heap.size, k * 3 + 1, none⟩) (by show w.heap.size ≤ w1.heap.size; omega) _).own (p := ⟨w1.heap.size, k * 3 + 2, none⟩) (by show w.heap.size ≤ w1.heap.size; omega) _, HS5⟩, by simp [intOf]; omega⟩
        · have cr := fun W (h1 : PrsW W) (h2 : TabW W) => impl_RingOf_no (xs.getD k 0) N W h1 h2 hok
          have HB : Hid (spB N xs = false) := sp_not HBB.out hlt hok
          clear H1 hok
          generalize xs.getD k 0 = p at *
          go_wp2_with fail
          refine (cr _ (HP.out.old HG.out) (HT.out.old HG.out)).mono ?_
          rintro e w3 ⟨rfl, g3⟩
          have HG4 : Hid (Old w (w3.alloc (.cells ring0 101))) := Old.trans HG.out (g3.alloc _)
          clear g3 cr s0 s1 c1
          go_wp2_with fail
          exact bodyPost_ret (v := .tuple #[.slice none 0 0, .bool false]) (by simp [results, Tryd.results46, go_sem]) rfl ⟨HG4.out, Or.inl ⟨HB.out, rfl⟩⟩
      · have d1 : decide ((k : Int) < (xs.length : Int)) = false := by simp; omega
        obtain rfl : k = xs.length := by omega
        have HB : Hid (spB N xs = true) := sp_all HBB.out H1.out
        clear H1
        go_wp2_with fail
        exact bodyPost_ret (v := .tuple #[.slice (some ⟨w1.heap.size, 0, none⟩) xs.length xs.length, .bool true]) (by simp [results, Tryd.results46, go_sem]) rfl ⟨HG.out, Or.inr ⟨HB.out, w1.heap.size, by omega, rfl, HR.out⟩⟩
end Go.Proofs.YtakleianimcmdaaDoor
/- Proved: whether a list is a polynomial of a ring, of the program and of the model. -/
namespace Go.Proofs.YtakleianimcmdaaDoor
open Go.ChangeShapes Go.WideShapes Go.ChangeAt Go.RowKit
set_option linter.unusedVariables false
abbrev toZ (ys : List Nat) : List Int := ys.map (fun (n : Nat) => (n : Int))
end Go.Proofs.YtakleianimcmdaaDoor
