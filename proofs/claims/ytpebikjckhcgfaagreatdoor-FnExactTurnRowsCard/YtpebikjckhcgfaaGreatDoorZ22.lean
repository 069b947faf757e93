/- Proved: several texts in one: what each proves is said ahead of it. -/
import Derived.Test.YtpebikjckhcgfaaGreatDoorZ11
import Derived.Test.YtpebikjckhcgfaaGreatDoorZ10
/- Proved: the contract of the program's ringsOf. -/
namespace Go.Proofs.YtpebikjckhcgfaaGreatDoor
open Go.ChangeShapes Go.WideShapes Go.ChangeAt Go.RowKit
open M1
set_option linter.unusedVariables false
set_option linter.unusedSimpArgs false
theorem cellO (W : World) (p : Addr) (v : Value) (q : Addr) (h : q.block ≠ p.block) : (W.setCell p v).cell? q = W.cell? q := World.cell?_of_block (heap_setCell_other W p q.block v h)
set_option maxRecDepth 100000 in
set_option maxHeartbeats 4000000 in
theorem impl_rings (N : Int) (xs : List Int) (Rf : Nat → Int) (v : Value) (w : World) (hP : PrsW w) (hT : TabW w) (hv : Row w v xs) (hf : Fit v) (hl : xs.length ≤ 9223372036854775807)
    (hRf : ∀ k, RingOk (xs.getD k 0) N → (0 ≤ Rf k ∧ Rf k < xs.getD k 0) ∧ (∀ W, PrsW W → TabW W → Calls Tryz.prog 72 #[.int .i64 (xs.getD k 0), .int .i64 N] W fun e w' => e = .returned (.tuple #[.agg #[.int .i64 (xs.getD k 0), .int .i64 N, .int .i64 (Rf k)], .bool true]) ∧ Old W w')) :
    Calls Tryz.prog 60 #[.agg #[.int .i64 N, v]] w fun e w' => Old w w' ∧ ((spB N xs = false ∧ e = .returned (.tuple #[.slice none 0 0, .bool false])) ∨ (spB N xs = true ∧ ∃ g, w.heap.size ≤ g ∧ e = .returned (.tuple #[.slice (some ⟨g, 0, none⟩) xs.length xs.length, .bool true]) ∧ Rgs w' g N xs Rf xs.length)) := by
  have cb := fun W v (h1 : PrsW W) (h2 : TabW W) (h : Row W v xs) (f : Fit v) => impl_goodBasis xs v W h1 h2 h f hl
  have HP : Hid (PrsW w) := hP
  have HT : Hid (TabW w) := hT
  have HV : Hid (Row w v xs) := hv
  have HF : Hid (Fit v) := hf
  have HRF : Hid (∀ k, RingOk (xs.getD k 0) N → (0 ≤ Rf k ∧ Rf k < xs.getD k 0) ∧ (∀ W, PrsW W → TabW W → Calls Tryz.prog 72 #[.int .i64 (xs.getD k 0), .int .i64 N] W fun e w' => e = .returned (.tuple #[.agg #[.int .i64 (xs.getD k 0), .int .i64 N, .int .i64 (Rf k)], .bool true]) ∧ Old W w')) := hRf
  obtain ⟨a0, cap0, ev⟩ := hv.slice
  subst ev
  have HN : Hid (Old w (w.alloc (.cells #[.int .i64 N, .slice a0 xs.length cap0] 33))) := (Old.refl w).alloc _
  clear hP hT hv hf hRf
  cases hb : basB xs
  · rw [hb] at cb
    have HB : Hid (spB N xs = false) := by show spB N xs = false; unfold spB; rw [hb]; simp
    clear hb
    go_enter Tryz.func60, Tryz.ntmps60
    go_wp2_with fail
    refine (cb _ _ (HP.out.old HN.out) (HT.out.old HN.out) (HV.out.old HN.out) HF.out).mono ?_
    rintro e w1 ⟨rfl, g1⟩
    have HG1 : Hid (Old w w1) := Old.trans HN.out g1
    clear g1
    go_wp2_with fail
    exact bodyPost_ret (v := .tuple #[.slice none 0 0, .bool false]) (by simp [results, Tryz.results60, go_sem]) rfl ⟨HG1.out, Or.inl ⟨HB.out, rfl⟩⟩
  · rw [hb] at cb
    have HBB : Hid (basB xs = true) := hb
    have hlen := (bas_at hb).1
    obtain ⟨i0, hi, hz0, hz1, hz2⟩ := info_parts Tryz.infoRing
    clear hb
    go_enter Tryz.func60, Tryz.ntmps60
    go_wp2_with fail
    refine (cb _ _ (HP.out.old HN.out) (HT.out.old HN.out) (HV.out.old HN.out) HF.out).mono ?_
    rintro e w1 ⟨rfl, g1⟩
    have HG1 : Hid (Old w w1) := Old.trans HN.out g1
    have HS1 : Hid (w1.cell? ⟨w.heap.size, 0, none⟩ = some (.int .i64 N) ∧ w1.cell? ⟨w.heap.size, 1, none⟩ = some (.slice a0 xs.length cap0)) := ⟨(g1.cell (p := ⟨w.heap.size, 0, none⟩) (by simp)).trans (cell_at _ _ _ _ _ rfl), (g1.cell (p := ⟨w.heap.size, 1, none⟩) (by simp)).trans (cell_at _ _ _ _ _ rfl)⟩
    have hs1 : w.heap.size < w1.heap.size := by have := g1.size; simp at this; omega
    clear g1 cb
    rcases (HV.out) with ⟨a, cap, e, e2⟩ | ⟨b, o, cap, e, hb, h1, hc⟩
    · subst e2
      simp at hlen
    simp only [Value.slice.injEq, true_and] at e
    obtain ⟨rfl, rfl⟩ := e
    have HC : Hid (∀ j, j < xs.length → w.cell? ⟨b, o + j, none⟩ = some (.int .i64 (xs.getD j 0))) := hc
    clear hc
    have s0 := HS1.out.1
    have s1 := HS1.out.2
    go_wp2_with (at_make; refine wpList_make_full _ rfl _ _ 64 rfl w1.heap.size 53 i0 (.agg #[.int .i64 0, .int .i64 0, .int .i64 0]) 3 Tryz.underlying64 hi hz0 hz1 .i64 .i64 _ _ xs.length rfl rfl rfl rfl (by rw [hz2]; omega) (by unfold maxLen; omega) (Nat.le_refl _) ?_; intro w2 hown hgrow; have s0' : w2.cell? ⟨w.heap.size, 0, none⟩ = some (.int .i64 N) := ((grownBy_old hgrow).cell (p := ⟨w.heap.size, 0, none⟩) hs1).trans s0; have s1' : w2.cell? ⟨w.heap.size, 1, none⟩ = some (.slice (some ⟨b, o, none⟩) xs.length cap0) := ((grownBy_old hgrow).cell (p := ⟨w.heap.size, 1, none⟩) hs1).trans s1)
    obtain ⟨ys, hyl, hym⟩ := made_rings xs.length
    rw [hym] at hown
    have HRG : Hid (Rgs w2 w1.heap.size N xs Rf 0) := ⟨ys, hyl, hown, fun i hi => by omega⟩
    have HG2 : Hid (Old w w2) := Old.trans HG1.out (grownBy_old hgrow)
    have HS2 : Hid (w2.cell? ⟨w.heap.size, 0, none⟩ = some (.int .i64 N) ∧ w2.cell? ⟨w.heap.size, 1, none⟩ = some (.slice (some ⟨b, o, none⟩) xs.length cap0)) := ⟨s0', s1'⟩
    clear hown hgrow s0' s1' s0 s1 HS1 hym hyl
    go_loopw [20] (fun i W => ∃ k : Nat, k ≤ xs.length ∧ i = .int .i64 k ∧ Hid (∀ j, j < k → RingOk (xs.getD j 0) N) ∧ Hid (Rgs W w1.heap.size N xs Rf k) ∧ Hid (Old w W) ∧ Hid (W.cell? ⟨w.heap.size, 0, none⟩ = some (.int .i64 N) ∧ W.cell? ⟨w.heap.size, 1, none⟩ = some (.slice (some ⟨b, o, none⟩) xs.length cap0))) (fun i _ => xs.length - (intOf i).toNat)
    case atStart => exact ⟨0, by omega, rfl, fun j hj => by omega, HRG, HG2, HS2⟩
    case round =>
      obtain ⟨k, hk, rfl, H1, HR, HG, HS⟩ := hrel
      clear HRG HG2 HS2
      by_cases hlt : k < xs.length
      · have d1 : decide ((k : Int) < (xs.length : Int)) = true := by simp; omega
        have c1 : wr.cell? ⟨b, o + k, none⟩ = some (.int .i64 (xs.getD k 0)) := (HG.out.cell (p := ⟨b, o + k, none⟩) hb).trans (HC.out k hlt)
        have s0 := HS.out.1
        have s1 := HS.out.2
        have hsr : w.heap.size < wr.heap.size := by have := HR.out.lt; omega
        by_cases hok : RingOk (xs.getD k 0) N
        · have cr := (HRF.out k hok).2
          have H2 : Hid (∀ j, j < k + 1 → RingOk (xs.getD j 0) N) := fun j hj => by
            rcases Nat.lt_or_ge j k with h | h
            · exact H1.out j h
            · obtain rfl : j = k := by omega
              exact hok
          have HPUT : Hid (∀ W, Rgs W w1.heap.size N xs Rf k → Rgs (((W.setCell ⟨w1.heap.size, k * 3, none⟩ (.int .i64 (xs.getD k 0))).setCell ⟨w1.heap.size, k * 3 + 1, none⟩ (.int .i64 N)).setCell ⟨w1.heap.size, k * 3 + 2, none⟩ (.int .i64 (Rf k))) w1.heap.size N xs Rf (k + 1)) := fun W h => h.put hlt
          have HCR : Hid (∀ W, PrsW W → TabW W → Calls Tryz.prog 72 #[.int .i64 (xs.getD k 0), .int .i64 N] W fun e w' => e = .returned (.tuple #[.agg #[.int .i64 (xs.getD k 0), .int .i64 N, .int .i64 (Rf k)], .bool true]) ∧ Old W w') := cr
          clear H1 hok cr
          generalize xs.getD k 0 = p at *
          obtain ⟨r, hr⟩ : ∃ r, Rf k = r := ⟨_, rfl⟩
          rw [hr] at HPUT HCR
          clear hr
          go_wp2_with fail
          refine (HCR.out _ (HP.out.old HG.out) (HT.out.old HG.out)).mono ?_
          rintro e w3 ⟨rfl, g3⟩
          have g4 : Old wr (w3.alloc (.cells #[.int .i64 p, .int .i64 N, .int .i64 r] 53)) := g3.alloc _
          have HR4 : Hid (Rgs (w3.alloc (.cells #[.int .i64 p, .int .i64 N, .int .i64 r] 53)) w1.heap.size N xs Rf k) := HR.out.old g4
          have HG4 : Hid (Old w (w3.alloc (.cells #[.int .i64 p, .int .i64 N, .int .i64 r] 53))) := Old.trans HG.out g4
          have HS4 : Hid ((w3.alloc (.cells #[.int .i64 p, .int .i64 N, .int .i64 r] 53)).cell? ⟨w.heap.size, 0, none⟩ = some (.int .i64 N) ∧ (w3.alloc (.cells #[.int .i64 p, .int .i64 N, .int .i64 r] 53)).cell? ⟨w.heap.size, 1, none⟩ = some (.slice (some ⟨b, o, none⟩) xs.length cap0)) := ⟨(g4.cell (p := ⟨w.heap.size, 0, none⟩) hsr).trans HS.out.1, (g4.cell (p := ⟨w.heap.size, 1, none⟩) hsr).trans HS.out.2⟩
          obtain ⟨y0, q0⟩ := HR4.out.cell (k * 3) (by omega)
          obtain ⟨y1, q1⟩ := HR4.out.cell (k * 3 + 1) (by omega)
          obtain ⟨y2, q2⟩ := HR4.out.cell (k * 3 + 2) (by omega)
          have f0 := HR4.out.free (k * 3)
          have f1 := HR4.out.free (k * 3 + 1)
          have f2 := HR4.out.free (k * 3 + 2)
          clear g3 g4 s0 s1 c1
          have hne : w.heap.size ≠ w1.heap.size := by omega
          have HS5 : Hid (((((w3.alloc (.cells #[.int .i64 p, .int .i64 N, .int .i64 r] 53)).setCell ⟨w1.heap.size, k * 3, none⟩ (.int .i64 p)).setCell ⟨w1.heap.size, k * 3 + 1, none⟩ (.int .i64 N)).setCell ⟨w1.heap.size, k * 3 + 2, none⟩ (.int .i64 r)).cell? ⟨w.heap.size, 0, none⟩ = some (.int .i64 N) ∧ ((((w3.alloc (.cells #[.int .i64 p, .int .i64 N, .int .i64 r] 53)).setCell ⟨w1.heap.size, k * 3, none⟩ (.int .i64 p)).setCell ⟨w1.heap.size, k * 3 + 1, none⟩ (.int .i64 N)).setCell ⟨w1.heap.size, k * 3 + 2, none⟩ (.int .i64 r)).cell? ⟨w.heap.size, 1, none⟩ = some (.slice (some ⟨b, o, none⟩) xs.length cap0)) := ⟨(cellO _ _ _ _ hne).trans ((cellO _ _ _ _ hne).trans ((cellO _ _ _ _ hne).trans HS4.out.1)), (cellO _ _ _ _ hne).trans ((cellO _ _ _ _ hne).trans ((cellO _ _ _ _ hne).trans HS4.out.2))⟩
          clear hne
          go_wp2_with fail
          exact ⟨⟨k + 1, by omega, by go_num, H2, HPUT.out _ HR4.out, ((HG4.out.own (p := ⟨w1.heap.size, k * 3, none⟩) (by show w.heap.size ≤ w1.heap.size; omega) _).own (p := ⟨w1.heap.size, k * 3 + 1, none⟩) (by show w.heap.size ≤ w1.heap.size; omega) _).own (p := ⟨w1.heap.size, k * 3 + 2, none⟩) (by show w.heap.size ≤ w1.heap.size; omega) _, HS5⟩, by simp [intOf]; omega⟩
        · have cr := fun W (h1 : PrsW W) (h2 : TabW W) => impl_RingOf_no (xs.getD k 0) N W h1 h2 hok
          have HB : Hid (spB N xs = false) := sp_not HBB.out hlt hok
          clear H1 hok
          generalize xs.getD k 0 = p at *
          go_wp2_with fail
          refine (cr _ (HP.out.old HG.out) (HT.out.old HG.out)).mono ?_
          rintro e w3 ⟨rfl, g3⟩
          have HG4 : Hid (Old w (w3.alloc (.cells ring0 53))) := Old.trans HG.out (g3.alloc _)
          clear g3 cr s0 s1 c1
          go_wp2_with fail
          exact bodyPost_ret (v := .tuple #[.slice none 0 0, .bool false]) (by simp [results, Tryz.results60, go_sem]) rfl ⟨HG4.out, Or.inl ⟨HB.out, rfl⟩⟩
      · have d1 : decide ((k : Int) < (xs.length : Int)) = false := by simp; omega
        obtain rfl : k = xs.length := by omega
        have HB : Hid (spB N xs = true) := sp_all HBB.out H1.out
        clear H1
        go_wp2_with fail
        exact bodyPost_ret (v := .tuple #[.slice (some ⟨w1.heap.size, 0, none⟩) xs.length xs.length, .bool true]) (by simp [results, Tryz.results60, go_sem]) rfl ⟨HG.out, Or.inr ⟨HB.out, w1.heap.size, by omega, rfl, HR.out⟩⟩
end Go.Proofs.YtpebikjckhcgfaaGreatDoor
/- Proved: the rings of a space, as the model makes them (l5Rings); and a root for each prime that serves both. -/
namespace Go.Proofs.YtpebikjckhcgfaaGreatDoor
open Go.ChangeShapes Go.WideShapes Go.ChangeAt Go.RowKit
set_option linter.unusedVariables false
set_option linter.unusedSimpArgs false
theorem Rings_both (N : Int) (xs : List Int) : ∃ Rf : Nat → Int, ∀ k, RingOk (xs.getD k 0) N → ((0 ≤ Rf k ∧ Rf k < xs.getD k 0) ∧ (∀ W, PrsW W → TabW W → Calls Tryz.prog 72 #[.int .i64 (xs.getD k 0), .int .i64 N] W fun e w' => e = .returned (.tuple #[.agg #[.int .i64 (xs.getD k 0), .int .i64 N, .int .i64 (Rf k)], .bool true]) ∧ Old W w'))
    ∧ (∀ W, Calls Tryz.prog 54 #[.int .i64 (xs.getD k 0), .int .i64 N] W fun e w' => e = .returned (.tuple #[.agg #[.int .i64 (xs.getD k 0), .int .i64 N, .int .i64 (Rf k)], .bool true]) ∧ Old W w')
    ∧ ∃ P M R : Nat, xs.getD k 0 = P ∧ N = M ∧ Rf k = R ∧ R < P ∧ RingOk P M ∧ (F1.Pr P → Rt P (2 * M) R) := by
  have h : ∀ k, ∃ Rk : Int, RingOk (xs.getD k 0) N → ((0 ≤ Rk ∧ Rk < xs.getD k 0) ∧ (∀ W, PrsW W → TabW W → Calls Tryz.prog 72 #[.int .i64 (xs.getD k 0), .int .i64 N] W fun e w' => e = .returned (.tuple #[.agg #[.int .i64 (xs.getD k 0), .int .i64 N, .int .i64 Rk], .bool true]) ∧ Old W w'))
      ∧ (∀ W, Calls Tryz.prog 54 #[.int .i64 (xs.getD k 0), .int .i64 N] W fun e w' => e = .returned (.tuple #[.agg #[.int .i64 (xs.getD k 0), .int .i64 N, .int .i64 Rk], .bool true]) ∧ Old W w')
      ∧ ∃ P M R : Nat, xs.getD k 0 = P ∧ N = M ∧ Rk = R ∧ R < P ∧ RingOk P M ∧ (F1.Pr P → Rt P (2 * M) R) := fun k => by
    by_cases hk : RingOk (xs.getD k 0) N
    · have h1 := modB_yes hk.md
      have h2 := hk.sz
      obtain ⟨P, hP⟩ := Int.eq_ofNat_of_zero_le (show 0 ≤ xs.getD k 0 by omega)
      obtain ⟨M, hM⟩ := Int.eq_ofNat_of_zero_le (show 0 ≤ N by omega)
      rw [hP, hM] at hk ⊢
      obtain ⟨R, r1, r2, r3, r4⟩ := Ring_both P M hk
      exact ⟨R, fun _ => ⟨⟨by omega, r3⟩, r4, P, M, R, rfl, rfl, rfl, r1, hk, r2⟩⟩
    · exact ⟨0, fun h => absurd h hk⟩
  exact Classical.skolem.1 h
/-- the first k rings, as the model's slice holds them -/
def Rgm (W : World) (base : Nat) (v : Value) (N : Int) (xs : List Int) (Rf : Nat → Int) (k : Nat) : Prop :=
  ∃ ys : List Int, ys.length = 3 * k ∧ W.ownsRow base 53 3 v k (ys.map (Value.int .i64)) ∧ ∀ i, i < k → ys.getD (i * 3) 0 = xs.getD i 0 ∧ ys.getD (i * 3 + 1) 0 = N ∧ ys.getD (i * 3 + 2) 0 = Rf i
theorem Rgm.old {W W' : World} {base : Nat} {v : Value} {N : Int} {xs : List Int} {Rf : Nat → Int} {k : Nat} (h : Rgm W base v N xs Rf k) (q : Old W W') : Rgm W' base v N xs Rf k := by
  obtain ⟨ys, hl, ho, hy⟩ := h
  refine ⟨ys, hl, ⟨ho.1, ?_⟩, hy⟩
  rcases ho.2 with hn | ⟨p, cap, cur, e, hb, hgg, rest⟩
  · exact .inl hn
  · refine .inr ⟨p, cap, cur, e, hb, ?_, rest⟩
    rw [q.block p (Array.getElem?_eq_some_iff.1 hgg).1]
    exact hgg
theorem Rgm.slice {W : World} {base : Nat} {v : Value} {N : Int} {xs : List Int} {Rf : Nat → Int} {k : Nat} (h : Rgm W base v N xs Rf k) : ∃ a c, v = .slice a k c := by
  obtain ⟨ys, hl, ho, hy⟩ := h
  rcases ho.2 with ⟨h1, h2⟩ | ⟨g, cap, cur, h1, _⟩
  · exact ⟨none, 0, by rw [h1, h2]⟩
  · exact ⟨_, cap, h1⟩
theorem Rgm.at {W : World} {base k : Nat} {a : Option Addr} {c : Nat} {N : Int} {xs : List Int} {Rf : Nat → Int} (h : Rgm W base (.slice a k c) N xs Rf k) (i : Nat) (hi : i < k) : ∃ g, a = some ⟨g, 0, none⟩ ∧ base ≤ g ∧ g < W.heap.size ∧ W.cell? ⟨g, i * 3, none⟩ = some (.int .i64 (xs.getD i 0)) ∧ W.cell? ⟨g, i * 3 + 1, none⟩ = some (.int .i64 N) ∧ W.cell? ⟨g, i * 3 + 2, none⟩ = some (.int .i64 (Rf i)) := by
  obtain ⟨ys, hl, ho, hy⟩ := h
  obtain ⟨h0, h1, h2⟩ := hy i hi
  obtain ⟨g, hg⟩ : ∃ g, a = some ⟨g, 0, none⟩ := by
    rcases ho.2 with ⟨_, e⟩ | ⟨g, cap, cur, e, _⟩
    · omega
    · injection e with e1
      exact ⟨g, e1⟩
  subst hg
  have hlt := ho.lt g rfl
  refine ⟨g, rfl, hlt.1, hlt.2, ?_, ?_, ?_⟩
  · rw [World.ownsRow.cellAt ho (i * 3) (by omega), ← h0]
    simp [List.getD, hl, show i * 3 < 3 * k by omega]
  · rw [World.ownsRow.cellAt ho (i * 3 + 1) (by omega), ← h1]
    simp [List.getD, hl, show i * 3 + 1 < 3 * k by omega]
  · rw [World.ownsRow.cellAt ho (i * 3 + 2) (by omega), ← h2]
    simp [List.getD, hl, show i * 3 + 2 < 3 * k by omega]
theorem three_cells (w : World) (x y z : Value) (t : TypeId) : ∀ j u, [x, y, z][j]? = some u → (w.alloc (.cells #[x, y, z] t)).cell? ((⟨w.heap.size, 0, none⟩ : Addr).add j) = some u := by
  intro j u h
  match j, h with
  | 0, h =>
    have : x = u := by simpa using h
    subst this
    exact cell_at w _ _ _ _ rfl
  | 1, h =>
    have : y = u := by simpa using h
    subst this
    exact cell_at w _ _ _ _ rfl
  | 2, h =>
    have : z = u := by simpa using h
    subst this
    exact cell_at w _ _ _ _ rfl
  | j + 3, h => simp at h
theorem ownsAny_old {W W' : World} {base n k : Nat} {T : TypeId} {v : Value} {vs : List Value} (h : W.ownsRow base T n v k vs) (q : Old W W') : W'.ownsRow base T n v k vs := by
  refine ⟨h.1, ?_⟩
  rcases h.2 with hn | ⟨p, cap, cur, e, hb, hgg, rest⟩
  · exact .inl hn
  · refine .inr ⟨p, cap, cur, e, hb, ?_, rest⟩
    rw [q.block p (Array.getElem?_eq_some_iff.1 hgg).1]
    exact hgg
theorem getD_app3 (ys : List Int) (k i : Nat) (x y z : Int) (hl : ys.length = 3 * k) (j : Nat) (hj : j < 3) (hi : i < k) : (ys ++ [x, y, z]).getD (i * 3 + j) 0 = ys.getD (i * 3 + j) 0 := by
  simp [List.getD, List.getElem?_append_left (show i * 3 + j < ys.length by omega)]
theorem getD_end3 (ys : List Int) (k : Nat) (x y z : Int) (hl : ys.length = 3 * k) : (ys ++ [x, y, z]).getD (k * 3) 0 = x ∧ (ys ++ [x, y, z]).getD (k * 3 + 1) 0 = y ∧ (ys ++ [x, y, z]).getD (k * 3 + 2) 0 = z := by
  refine ⟨?_, ?_, ?_⟩
  · rw [List.getD_eq_getElem?_getD, List.getElem?_append_right (by omega), show k * 3 - ys.length = 0 by omega]; rfl
  · rw [List.getD_eq_getElem?_getD, List.getElem?_append_right (by omega), show k * 3 + 1 - ys.length = 1 by omega]; rfl
  · rw [List.getD_eq_getElem?_getD, List.getElem?_append_right (by omega), show k * 3 + 2 - ys.length = 2 by omega]; rfl
set_option maxRecDepth 100000 in
set_option maxHeartbeats 4000000 in
theorem spec_l5Rings (N : Int) (ps : List Int) (Rf : Nat → Int) (v : Value) (w : World) (hv : Row w v ps) (hps : 1 ≤ ps.length ∧ ps.length ≤ 6)
    (hR : ∀ k, k < ps.length → ∀ W, Calls Tryz.prog 54 #[.int .i64 (ps.getD k 0), .int .i64 N] W fun e w' => e = .returned (.tuple #[.agg #[.int .i64 (ps.getD k 0), .int .i64 N, .int .i64 (Rf k)], .bool true]) ∧ Old W w') :
    Calls Tryz.prog 38 #[.agg #[.int .i64 N, v]] w fun e w' => ∃ a c, e = .returned (.slice a ps.length c) ∧ Old w w' ∧ Rgm w' w.heap.size (.slice a ps.length c) N ps Rf ps.length := by
  obtain ⟨i0, hi, hz0, hz1, hz2⟩ := info_parts Tryz.infoRing
  have HR : Hid (∀ k, k < ps.length → ∀ W, Calls Tryz.prog 54 #[.int .i64 (ps.getD k 0), .int .i64 N] W fun e w' => e = .returned (.tuple #[.agg #[.int .i64 (ps.getD k 0), .int .i64 N, .int .i64 (Rf k)], .bool true]) ∧ Old W w') := hR
  rcases hv with ⟨a, cap, e, e'⟩ | ⟨b, o, cap, rfl, hb, h0, hc⟩
  · subst e'
    simp at hps
  have HC : Hid (∀ j, j < ps.length → w.cell? ⟨b, o + j, none⟩ = some (.int .i64 (ps.getD j 0))) := hc
  obtain ⟨wB, hwB⟩ : ∃ wB, wB = w.alloc (.cells #[.int .i64 N, .slice (some ⟨b, o, none⟩) ps.length cap] 33) := ⟨_, rfl⟩
  have HWB : Hid (Old w wB) := by rw [hwB]; exact (Old.refl w).alloc _
  have hq0 : wB.cell? ⟨w.heap.size, 0, none⟩ = some (.int .i64 N) := by rw [hwB]; exact cell_at _ _ _ _ _ rfl
  have hq1 : wB.cell? ⟨w.heap.size, 1, none⟩ = some (.slice (some ⟨b, o, none⟩) ps.length cap) := by rw [hwB]; exact cell_at _ _ _ _ _ rfl
  have hqs : w.heap.size < wB.heap.size := by rw [hwB]; simp
  clear hR hc h0
  go_enter Tryz.func38, Tryz.ntmps38
  go_wp2_with fail
  rw [← hwB]
  clear hwB
  go_loopw [3, 11] (fun x i W => ∃ (k : Nat) (a : Option Addr) (c : Nat), k ≤ ps.length ∧ i = .int .i64 k ∧ x = .slice a k c ∧ Hid (Rgm W wB.heap.size (.slice a k c) N ps Rf k) ∧ Hid (Old wB W)) (fun _ i _ => ps.length - (intOf i).toNat)
  case atStart => exact ⟨0, none, 0, by omega, rfl, rfl, ⟨[], rfl, ⟨rfl, .inl ⟨rfl, rfl⟩⟩, fun i hi => by omega⟩, Old.refl _⟩
  case round =>
    obtain ⟨k, a, c, hk, rfl, rfl, HM, HG⟩ := hrel
    by_cases hlt : k < ps.length
    · have d1 : decide ((k : Int) < (ps.length : Int)) = true := by simp; omega
      have c1 : wr.cell? ⟨b, o + k, none⟩ = some (.int .i64 (ps.getD k 0)) := ((Old.trans HWB.out HG.out).cell (p := ⟨b, o + k, none⟩) hb).trans (HC.out k hlt)
      have q0 : wr.cell? ⟨w.heap.size, 0, none⟩ = some (.int .i64 N) := (HG.out.cell (p := ⟨w.heap.size, 0, none⟩) hqs).trans hq0
      have cr := HR.out k hlt
      obtain ⟨ys, hyl, hyo, hya⟩ := HM.out
      have HYO : Hid (wr.ownsRow wB.heap.size 53 3 (.slice a k c) k (ys.map (Value.int .i64))) := hyo
      have HYA : Hid (ys.length = 3 * k ∧ ∀ i, i < k → ys.getD (i * 3) 0 = ps.getD i 0 ∧ ys.getD (i * 3 + 1) 0 = N ∧ ys.getD (i * 3 + 2) 0 = Rf i) := ⟨hyl, hya⟩
      obtain ⟨p, hp⟩ : ∃ p, ps.getD k 0 = p := ⟨_, rfl⟩
      obtain ⟨r, hr⟩ : ∃ r, Rf k = r := ⟨_, rfl⟩
      rw [hp] at c1 cr
      rw [hr] at cr
      have HPR : Hid (ps.getD k 0 = p ∧ Rf k = r) := ⟨hp, hr⟩
      clear hyl hyo hya hp hr HM
      go_wp2_with fail
      refine (cr _).mono ?_
      rintro e w2 ⟨rfl, g2⟩
      have HG2 : Hid (Old wB w2) := Old.trans HG.out g2
      have HYO2 : Hid (w2.ownsRow wB.heap.size 53 3 (.slice a k c) k (ys.map (Value.int .i64))) := ownsAny_old HYO.out g2
      have hsz2 := HG2.out.size
      clear g2 cr c1 q0 HYO
      obtain ⟨w4, hw4⟩ : ∃ w4, w4 = (w2.alloc (.cells #[.int .i64 p, .int .i64 N, .int .i64 r] 53)).alloc (.cells #[.int .i64 p, .int .i64 N, .int .i64 r] 53) := ⟨_, rfl⟩
      have hnews : ∀ j u, [Value.int .i64 p, .int .i64 N, .int .i64 r][j]? = some u → w4.cell? ((⟨w2.heap.size + 1, 0, none⟩ : Addr).add j) = some u := fun j u hj => by
        have h := three_cells (w2.alloc (.cells #[.int .i64 p, .int .i64 N, .int .i64 r] 53)) (.int .i64 p) (.int .i64 N) (.int .i64 r) 53 j u hj
        rw [← hw4] at h
        have e1 : (w2.alloc (.cells #[.int .i64 p, .int .i64 N, .int .i64 r] 53)).heap.size = w2.heap.size + 1 := by simp
        rw [e1] at h
        exact h
      have HNW : Hid (∀ j u, [Value.int .i64 p, .int .i64 N, .int .i64 r][j]? = some u → w4.cell? ((⟨w2.heap.size + 1, 0, none⟩ : Addr).add j) = some u) := hnews
      have HO4 : Hid (w4.ownsRow wB.heap.size 53 3 (.slice a k c) k (ys.map (Value.int .i64))) := by rw [hw4]; exact ownsAny_old HYO2.out (((Old.refl w2).alloc _).alloc _)
      have HG4 : Hid (Old wB w4) := by rw [hw4]; exact (HG2.out.alloc _).alloc _
      clear hnews
      go_wp2_with (at_builtin; rw [← hw4]; refine wpList_append_own _ rfl _ _ 64 rfl wB.heap.size 53 i0 (.agg #[.int .i64 0, .int .i64 0, .int .i64 0]) 3 24 Tryz.underlying64 hi hz0 hz1 hz2 rfl (by decide) _ _ _ rfl HO4.out ⟨w2.heap.size + 1, 0, none⟩ 1 1 [.int .i64 p, .int .i64 N, .int .i64 r] rfl rfl HNW.out (by simp [Value.oneCell']) (by unfold maxLen; omega) (by omega) HG4.out.size ?_; intro v5 w5 o5 g5 x5; have HO5 : Hid (w5.ownsRow wB.heap.size 53 3 v5 (k + 1) ((ys ++ [p, N, r]).map (Value.int .i64))) := (by show World.ownsRow _ _ _ _ _ _ _; rw [List.map_append]; exact o5); have HG5 : Hid (Old wB w5) := Below.grown HG4.out g5 HG4.out.size (fun j hj => (HO4.out.lt j hj).1); clear o5 g5 x5)
      have HM5 : Hid (Rgm w5 wB.heap.size v5 N ps Rf (k + 1)) := by
        obtain ⟨hyl, hya⟩ := HYA.out
        refine ⟨ys ++ [p, N, r], by rw [List.length_append, hyl]; rfl, HO5.out, fun i hi => ?_⟩
        rcases Nat.lt_or_ge i k with h1 | h1
        · obtain ⟨q0, q1, q2⟩ := hya i h1
          exact ⟨(getD_app3 ys k i p N r hyl 0 (by omega) h1).trans q0, (getD_app3 ys k i p N r hyl 1 (by omega) h1).trans q1, (getD_app3 ys k i p N r hyl 2 (by omega) h1).trans q2⟩
        · obtain rfl : i = k := by omega
          rw [HPR.out.1, HPR.out.2]
          exact getD_end3 ys i p N r hyl
      obtain ⟨a5, c5, e5⟩ := HM5.out.slice
      subst e5
      exact ⟨⟨k + 1, _, _, by omega, by go_num, rfl, HM5, HG5⟩, by simp [intOf]; omega⟩
    · have d1 : decide ((k : Int) < (ps.length : Int)) = false := by simp; omega
      obtain rfl : k = ps.length := by omega
      go_wp2_with fail
      go_ret
      obtain ⟨ys, hyl, hyo, hya⟩ := HM.out
      refine ⟨a, c, rfl, Old.trans HWB.out HG.out, ys, hyl, ?_, hya⟩
      refine ⟨hyo.1, ?_⟩
      rcases hyo.2 with hn | ⟨p, cap, cur, e, hb, hgg, rest⟩
      · exact .inl hn
      · exact .inr ⟨p, cap, cur, e, Nat.le_trans HWB.out.size hb, hgg, rest⟩
end Go.Proofs.YtpebikjckhcgfaaGreatDoor
/- Proved: the modulus of a good ring is a prime. -/
namespace Go.Proofs.YtpebikjckhcgfaaGreatDoor
open Go.ChangeShapes Go.WideShapes Go.ChangeAt Go.RowKit
set_option linter.unusedVariables false
theorem no_28 : isP 268435456 = false := by decide +kernel
theorem ring_pr {P N : Nat} (h : RingOk P N) : F1.Pr P := by
  have h1 := modB_yes h.md
  have h2 := h.pr
  rw [Int.toNat_natCast] at h2
  refine F1.pr_of_isP P h2 ?_
  have hn : P ≠ 268435456 := fun e => by
    rw [e, no_28] at h2
    cases h2
  omega
theorem GR.bounds2 {p n r : Int} {P N R : Nat} (h : GR p n r P N R) : (2 ≤ p ∧ p ≤ 268435456) ∧ (2 ≤ n ∧ n ≤ 16) := by
  have h1 := modB_yes h.ok.md
  have h2 := h.ok.sz
  have := h.ep
  have := h.en
  omega
end Go.Proofs.YtpebikjckhcgfaaGreatDoor
