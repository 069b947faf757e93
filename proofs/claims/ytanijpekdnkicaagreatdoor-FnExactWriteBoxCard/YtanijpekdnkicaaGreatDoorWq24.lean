/- Proved: several texts in one: what each proves is said ahead of it. -/
import Derived.Test.YtanijpekdnkicaaGreatDoorWq18
import Derived.Test.YtanijpekdnkicaaGreatDoorWq19
import Derived.KernelRfl
import Derived.Test.YtanijpekdnkicaaGreatDoorWq22
import Derived.Test.YtanijpekdnkicaaGreatDoorWq21
import Derived.Handy
import Derived.Test.YtanijpekdnkicaaGreatDoorWq23
import Derived.Test.YtanijpekdnkicaaGreatDoorWq13
import Derived.Test.YtanijpekdnkicaaGreatDoorWq00
import Derived.Test.YtanijpekdnkicaaGreatDoorWq06
import Derived.Test.YtanijpekdnkicaaGreatDoorSzAdd
import Derived.Deep.RegionHeld3
import Derived.Test.YtanijpekdnkicaaGreatDoorWq05
import Derived.Deep.DeepCutAuto
import Derived.Test.YtanijpekdnkicaaGreatDoorWq02
import Derived.Test.YtanijpekdnkicaaGreatDoorWq17
import Derived.ScopeJumps
import Derived.Lib.BitFns
import Derived.Test.YtanijpekdnkicaaGreatDoorWq01
import Derived.Test.YtanijpekdnkicaaGreatDoorRows
import Derived.Lib.Walk
import Derived.Laws.LoneSync
import Derived.Test.YtanijpekdnkicaaGreatDoorWq20
import Derived.Test.YtanijpekdnkicaaGreatDoorWq16
import Derived.Test.YtanijpekdnkicaaGreatDoorWq14
import Derived.Test.YtanijpekdnkicaaGreatDoorWq12
import Derived.Deep.AppendLies
import Derived.Maps.AppendAt
import Derived.Test.YtanijpekdnkicaaGreatDoorWq10
import Derived.Test.YtanijpekdnkicaaGreatDoorWq25
import Derived.Test.YtanijpekdnkicaaGreatDoorWq15
/- Proved: contracts of the atomic place (a word that is loaded and stored in the run of one goroutine), and of the program's greatestSize. -/
namespace Go.Proofs.YtanijpekdnkicaaGreatDoor
open Go.ChangeShapes Go.WideShapes Go.ChangeAt Go.RowKit
set_option linter.unusedVariables false
set_option linter.unusedSimpArgs false
open M2
theorem bk_oneA {w : World} {k : Nat} {x y : Value} {t : TypeId} (h : Bk w k #[x, y] t) (x' : Value) : Bk (w.setCell ⟨k, 0, none⟩ x') k #[x', y] t := heap_setCell_same w k 0 _ _ x' h
theorem bk_twoA {w : World} {k : Nat} {x y : Value} {t : TypeId} (h : Bk w k #[x, y] t) (x' y' : Value) : Bk ((w.setCell ⟨k, 0, none⟩ x').setCell ⟨k, 1, none⟩ y') k #[x', y'] t := heap_setCell_same _ k 1 _ _ y' (bk_oneA h x')
end Go.Proofs.YtanijpekdnkicaaGreatDoor
/- Proved: a pair of rows, read in its rings. -/
namespace Go.Proofs.YtanijpekdnkicaaGreatDoor
open Go.ChangeShapes Go.WideShapes Go.ChangeAt Go.RowKit
set_option linter.unusedVariables false
set_option linter.unusedSimpArgs false
set_option maxRecDepth 100000 in
set_option maxHeartbeats 4000000 in
theorem rowPairIn_w (gr : Option Addr) (lr cr : Nat) (aA aB : Option Addr) (lA cA lB cB : Nat) (w : World) (b1 b2 : Bool) (P1 P2 : World → Option Addr → Nat → Nat → Prop)
    (o1 : ∀ W W' p l c, Old W W' → P1 W p l c → P1 W' p l c)
    (s1 : ∀ W p l c v v', P1 W p l c → P1 ((W.setCell ⟨w.heap.size + 1, 0, none⟩ v).setCell ⟨w.heap.size + 1, 1, none⟩ v') p l c)
    (s2 : ∀ W p l c v v', P2 W p l c → P2 ((W.setCell ⟨w.heap.size + 1, 0, none⟩ v).setCell ⟨w.heap.size + 1, 1, none⟩ v') p l c)
    (K1 : ∀ W, Old w W → w.heap.size + 2 ≤ W.heap.size → Calls Tryz.prog 115 #[.slice gr lr cr, .agg #[.bool false, .slice aA lA cA]] W fun e w' => Old W w' ∧ ∃ p l c, e = .returned (.tuple #[.slice p l c, .bool b1]) ∧ P1 w' p l c)
    (K2 : ∀ W, Old w W → w.heap.size + 2 ≤ W.heap.size → Calls Tryz.prog 115 #[.slice gr lr cr, .agg #[.bool false, .slice aB lB cB]] W fun e w' => Old W w' ∧ ∃ p l c, e = .returned (.tuple #[.slice p l c, .bool b2]) ∧ P2 w' p l c) :
    Calls Tryz.prog 85 #[.slice gr lr cr, .agg #[.slice aA lA cA, .slice aB lB cB]] w fun e w' => Old w w' ∧ ∃ p l c p' l' c', e = .returned (.tuple #[.agg #[.slice p l c, .slice p' l' c'], .bool (b1 && b2)]) ∧ P1 w' p l c ∧ P2 w' p' l' c' := by
  have HK1 := hidP K1
  have HK2 := hidP K2
  have HO1 := hidP o1
  have HS1 := hidP s1
  have HS2 := hidP s2
  have HA : Hid (Old w ((w.alloc (.cells #[.slice aA lA cA, .slice aB lB cB] 77)).alloc (.cells #[.slice none 0 0, .slice none 0 0] 138))) := ((Old.refl w).alloc _).alloc _
  have HSZ : Hid (w.heap.size + 2 ≤ ((w.alloc (.cells #[.slice aA lA cA, .slice aB lB cB] 77)).alloc (.cells #[.slice none 0 0, .slice none 0 0] 138)).heap.size) := by simp [Hid]
  have BP : Hid (Bk ((w.alloc (.cells #[.slice aA lA cA, .slice aB lB cB] 77)).alloc (.cells #[.slice none 0 0, .slice none 0 0] 138)) w.heap.size #[.slice aA lA cA, .slice aB lB cB] 77) := (Bk.new' w _ _ rfl).alloc _
  have BR : Hid (Bk ((w.alloc (.cells #[.slice aA lA cA, .slice aB lB cB] 77)).alloc (.cells #[.slice none 0 0, .slice none 0 0] 138)) (w.heap.size + 1) #[.slice none 0 0, .slice none 0 0] 138) := Bk.new' _ _ _ (by simp)
  clear K1 K2 o1 s1 s2
  cases b1
  all_goals
    go_enter Tryz.func85, Tryz.ntmps85
    go_wp2_with fail
    refine (HK1.out _ HA.out HSZ.out).mono ?_
    rintro e w1 ⟨g1, p, l, c, rfl, h1⟩
    have H1 := hidP h1
    have HG1 : Hid (Old w w1) := Old.trans HA.out g1
    have HZ1 : Hid (w.heap.size + 2 ≤ w1.heap.size) := Nat.le_trans HSZ.out g1.size
    have P1' := hidP (BP.out.old g1)
    have R1' := hidP (BR.out.old g1)
    clear g1 h1 BP BR HA HK1 HSZ
    have z0 := P1'.out.c (i := 0) rfl
    have z1 := P1'.out.c (i := 1) rfl
    go_wp2_with fail
    refine (HK2.out _ HG1.out HZ1.out).mono ?_
    rintro e w2 ⟨g2, p', l', c', rfl, h2⟩
    have H2 := hidP h2
    have H1' := hidP (HO1.out _ _ _ _ _ g2 H1.out)
    have HG2 : Hid (Old w w2) := Old.trans HG1.out g2
    have R2' := hidP (R1'.out.old g2)
    clear g2 h2 P1' R1' HK2 z0 z1 H1 HO1 HZ1
    have z0 := R2'.out.c (i := 0) rfl
    have z1 := R2'.out.c (i := 1) rfl
    have f0 : w2.frozen? ⟨w.heap.size + 1, 0, none⟩ = false := frozen_of_row _ _ _ _ _ R2'.out
    have f1 : w2.frozen? ⟨w.heap.size + 1, 1, none⟩ = false := frozen_of_row _ _ _ _ _ R2'.out
    go_wp2_with fail
    have qq := bk_twoA R2'.out (.slice p l c) (.slice p' l' c')
    have q0 := qq.c (i := 0) rfl
    have q1 := qq.c (i := 1) rfl
    refine bodyPost_ret (v := .tuple #[.agg #[.slice p l c, .slice p' l' c'], .bool _]) (by simp [results, Tryz.results85, go_sem, q0, q1]; rfl) rfl ?_
    exact ⟨(HG2.out.own (p := ⟨w.heap.size + 1, 0, none⟩) (by simp) _).own (p := ⟨w.heap.size + 1, 1, none⟩) (by simp) _, p, l, c, p', l', c', rfl, HS1.out _ _ _ _ _ _ H1'.out, HS2.out _ _ _ _ _ _ H2.out⟩
end Go.Proofs.YtanijpekdnkicaaGreatDoor
/- Proved: differences of rows that can be read; a pair of rows, read in its rings. -/
namespace Go.Proofs.YtanijpekdnkicaaGreatDoor
open Go.ChangeShapes Go.WideShapes Go.ChangeAt Go.RowKit
set_option linter.unusedVariables false
set_option linter.unusedSimpArgs false
open M1
theorem rowPairIn_in (Nn : Nat) (ps : List Int) (Rf : Nat → Int) (xss yss : List (List Int)) (ux uy : Nat → Option Addr) (cx cy : Nat → Nat) (g : Nat) (aA aB : Option Addr) (cA cB : Nat) (w : World) (hN : 2 ≤ Nn ∧ Nn ≤ 16) (hps : 1 ≤ ps.length ∧ ps.length ≤ 6) (hrg : Rgs w g Nn ps Rf ps.length) (hsp : spB Nn ps = true)
    (hlx : xss.length ≤ 1048576) (hrx : ∀ r ∈ xss, r.length ≤ 1048576) (hx : 0 < xss.length → RowsAt w (.slice aA xss.length cA) ps xss ux cx) (hly : yss.length ≤ 1048576) (hry : ∀ r ∈ yss, r.length ≤ 1048576) (hy : 0 < yss.length → RowsAt w (.slice aB yss.length cB) ps yss uy cy) :
    Calls Tryz.prog 85 #[.slice (some ⟨g, 0, none⟩) ps.length ps.length, .agg #[.slice aA xss.length cA, .slice aB yss.length cB]] w fun e w' => Old w w' ∧ (((rwB Nn ps xss && rwB Nn ps yss) = false ∧ ∃ p l c p' l' c', e = .returned (.tuple #[.agg #[.slice p l c, .slice p' l' c'], .bool false])) ∨ ((rwB Nn ps xss && rwB Nn ps yss) = true ∧ ∃ g1 g2, e = .returned (.tuple #[.agg #[.slice g1 ps.length ps.length, .slice g2 ps.length ps.length], .bool true]) ∧ RdX Nn ps Rf xss w' (.slice g1 ps.length ps.length) ∧ RdX Nn ps Rf yss w' (.slice g2 ps.length ps.length))) := by
  have key : ∀ (a1 : Option Addr) (zss : List (List Int)) (uz : Nat → Option Addr) (cz : Nat → Nat) (c1 : Nat) (hl : zss.length ≤ 1048576) (hr : ∀ r ∈ zss, r.length ≤ 1048576) (hz : 0 < zss.length → RowsAt w (.slice a1 zss.length c1) ps zss uz cz) (W : World), Old w W → w.heap.size + 2 ≤ W.heap.size →
      Calls Tryz.prog 115 #[.slice (some ⟨g, 0, none⟩) ps.length ps.length, .agg #[.bool false, .slice a1 zss.length c1]] W fun e w' => Old W w' ∧ ∃ p l c, e = .returned (.tuple #[.slice p l c, .bool (rwB Nn ps zss)]) ∧ (rwB Nn ps zss = true → ∃ g', w.heap.size + 2 ≤ g' ∧ p = some ⟨g', 0, none⟩ ∧ l = ps.length ∧ c = ps.length ∧ RRs w' g' Nn false ps Rf uz ps.length) := fun a1 zss uz cz c1 hl hr hz W q hq =>
    (impl_rowsIn Nn false ps zss Rf uz cz g a1 c1 W (hrg.old q) hsp hl hr (fun h => (hz h).old q)).mono fun e w' h => by
      obtain ⟨gg, ⟨hd, e1⟩ | ⟨hd, g', hg', e1, hrr⟩⟩ := h
      · exact ⟨gg, none, 0, 0, by rw [hd]; exact e1, fun h => by rw [hd] at h; cases h⟩
      · exact ⟨gg, _, _, _, by rw [hd]; exact e1, fun _ => ⟨g', by omega, rfl, rfl, rfl, hrr⟩⟩
  have old : ∀ (zss : List (List Int)) (uz : Nat → Option Addr) (W W' : World) (p : Option Addr) (l c : Nat), Old W W' → (rwB Nn ps zss = true → ∃ g', w.heap.size + 2 ≤ g' ∧ p = some ⟨g', 0, none⟩ ∧ l = ps.length ∧ c = ps.length ∧ RRs W g' Nn false ps Rf uz ps.length) → (rwB Nn ps zss = true → ∃ g', w.heap.size + 2 ≤ g' ∧ p = some ⟨g', 0, none⟩ ∧ l = ps.length ∧ c = ps.length ∧ RRs W' g' Nn false ps Rf uz ps.length) := fun zss uz W W' p l c q h hb => by
    obtain ⟨g', h1, h2, h3, h4, h5⟩ := h hb
    exact ⟨g', h1, h2, h3, h4, h5.old q⟩
  have set : ∀ (zss : List (List Int)) (uz : Nat → Option Addr) (W : World) (p : Option Addr) (l c : Nat) (v v' : Value), (rwB Nn ps zss = true → ∃ g', w.heap.size + 2 ≤ g' ∧ p = some ⟨g', 0, none⟩ ∧ l = ps.length ∧ c = ps.length ∧ RRs W g' Nn false ps Rf uz ps.length) → (rwB Nn ps zss = true → ∃ g', w.heap.size + 2 ≤ g' ∧ p = some ⟨g', 0, none⟩ ∧ l = ps.length ∧ c = ps.length ∧ RRs ((W.setCell ⟨w.heap.size + 1, 0, none⟩ v).setCell ⟨w.heap.size + 1, 1, none⟩ v') g' Nn false ps Rf uz ps.length) := fun zss uz W p l c v v' h hb => by
    obtain ⟨g', h1, h2, h3, h4, h5⟩ := h hb
    refine ⟨g', h1, h2, h3, h4, h5.same ?_⟩
    have hne : g' ≠ w.heap.size + 1 := by omega
    exact (heap_setCell_other _ ⟨w.heap.size + 1, 1, none⟩ g' _ hne).trans (heap_setCell_other _ ⟨w.heap.size + 1, 0, none⟩ g' _ hne)
  refine (rowPairIn_w (some ⟨g, 0, none⟩) ps.length ps.length aA aB xss.length cA yss.length cB w _ _ _ _ (old xss ux) (set xss ux) (set yss uy) (key aA xss ux cx cA hlx hrx hx) (key aB yss uy cy cB hly hry hy)).mono fun e w' h => ?_
  obtain ⟨q, p, l, c, p', l', c', e1, h1, h2⟩ := h
  refine ⟨q, ?_⟩
  cases hb : (rwB Nn ps xss && rwB Nn ps yss)
  · rw [hb] at e1
    exact .inl ⟨rfl, _, _, _, _, _, _, e1⟩
  · rw [hb] at e1
    obtain ⟨b1, b2⟩ := (Bool.and_eq_true _ _).mp hb
    obtain ⟨g1, k1, rfl, rfl, rfl, r1⟩ := h1 b1
    obtain ⟨g2, k2, rfl, rfl, rfl, r2⟩ := h2 b2
    have l1 := (rw_parts b1).1
    have l2 := (rw_parts b2).1
    obtain ⟨bb, cc, _, hbb, _⟩ := hx (by omega)
    exact .inr ⟨rfl, _, _, e1, RdX_ofZ (base := 0) (uf := fun _ => ux) (j := 0) hN ⟨g1, rfl, by omega, r1⟩ ((hx (by omega)).old q) b1, RdX_ofZ (base := 0) (uf := fun _ => uy) (j := 0) hN ⟨g2, rfl, by omega, r2⟩ ((hy (by omega)).old q) b2⟩
end Go.Proofs.YtanijpekdnkicaaGreatDoor
/- Proved: contracts of the program's arePairs and isCipherBound. -/
namespace Go.Proofs.YtanijpekdnkicaaGreatDoor
open Go.ChangeShapes Go.WideShapes Go.ChangeAt Go.RowKit
open M1
open M2
set_option linter.unusedVariables false
set_option linter.unusedSimpArgs false
def PkT (w : World) (b : Nat) (ps : List Int) (kss : List PrV) (aA aB : Nat → Option Addr) (cA cB : Nat → Nat) (ux uy : Nat → Nat → Option Addr) (dx dy : Nat → Nat → Nat) : Prop :=
  b < w.heap.size ∧ ∀ j, j < kss.length → w.cell? ⟨b, j * 2, none⟩ = some (.slice (aA j) (pk kss j).1.length (cA j)) ∧ w.cell? ⟨b, j * 2 + 1, none⟩ = some (.slice (aB j) (pk kss j).2.length (cB j)) ∧ (0 < (pk kss j).1.length → RowsAt w (.slice (aA j) (pk kss j).1.length (cA j)) ps (pk kss j).1 (ux j) (dx j)) ∧ (0 < (pk kss j).2.length → RowsAt w (.slice (aB j) (pk kss j).2.length (cB j)) ps (pk kss j).2 (uy j) (dy j))
theorem PkT.old {w w' : World} {b : Nat} {ps : List Int} {kss : List PrV} {aA aB : Nat → Option Addr} {cA cB : Nat → Nat} {ux uy : Nat → Nat → Option Addr} {dx dy : Nat → Nat → Nat} (h : PkT w b ps kss aA aB cA cB ux uy dx dy) (g : Old w w') : PkT w' b ps kss aA aB cA cB ux uy dx dy :=
  ⟨Nat.lt_of_lt_of_le h.1 g.size, fun j hj => ⟨(g.cell (p := ⟨b, j * 2, none⟩) h.1).trans (h.2 j hj).1, (g.cell (p := ⟨b, j * 2 + 1, none⟩) h.1).trans (h.2 j hj).2.1, fun h0 => ((h.2 j hj).2.2.1 h0).old g, fun h0 => ((h.2 j hj).2.2.2 h0).old g⟩⟩
def PkV (w : World) (v : Value) (ps : List Int) (kss : List PrV) : Prop :=
  (∃ a cap, v = .slice a 0 cap ∧ kss = []) ∨ ∃ b cap aA aB cA cB ux uy dx dy, v = .slice (some ⟨b, 0, none⟩) kss.length cap ∧ 0 < kss.length ∧ PkT w b ps kss aA aB cA cB ux uy dx dy
theorem PkV.old {w w' : World} {v : Value} {ps : List Int} {kss : List PrV} (h : PkV w v ps kss) (g : Old w w') : PkV w' v ps kss := by
  rcases h with h | ⟨b, cap, aA, aB, cA, cB, ux, uy, dx, dy, e, h0, h⟩
  · exact .inl h
  · exact .inr ⟨b, cap, aA, aB, cA, cB, ux, uy, dx, dy, e, h0, h.old g⟩
theorem PkV.slice {w : World} {v : Value} {ps : List Int} {kss : List PrV} (h : PkV w v ps kss) : ∃ a c, v = .slice a kss.length c := by
  rcases h with ⟨a, cap, e, e2⟩ | ⟨b, cap, aA, aB, cA, cB, ux, uy, dx, dy, e, h0, h⟩
  · exact ⟨a, cap, by rw [e, e2]; rfl⟩
  · exact ⟨_, _, e⟩
theorem TKS.at {kss : List PrV} {W : World} {B : Nat → Prop} {v : Value} (ps : List Int) (h : TKS kss W B [v]) : PkV W v ps kss := by
  rcases h with ⟨h0, h1, _⟩ | ⟨p, cap, vs, Bs, e, hc, _⟩
  · simp at h1
    exact .inl ⟨none, 0, h1, List.length_eq_zero_iff.1 h0⟩
  · simp at e
    subst e
    rcases Nat.eq_zero_or_pos kss.length with h0 | h0
    · rw [h0]
      exact .inl ⟨_, _, rfl, List.length_eq_zero_iff.1 h0⟩
    · have key : ∀ j, ∃ q : (Option Addr × Nat × (Nat → Option Addr) × (Nat → Nat)) × Option Addr × Nat × (Nat → Option Addr) × (Nat → Nat), j < kss.length → W.cell? ⟨p, j * 2, none⟩ = some (.slice q.1.1 (pk kss j).1.length q.1.2.1) ∧ W.cell? ⟨p, j * 2 + 1, none⟩ = some (.slice q.2.1 (pk kss j).2.length q.2.2.1) ∧ (0 < (pk kss j).1.length → RowsAt W (.slice q.1.1 (pk kss j).1.length q.1.2.1) ps (pk kss j).1 q.1.2.2.1 q.1.2.2.2) ∧ (0 < (pk kss j).2.length → RowsAt W (.slice q.2.1 (pk kss j).2.length q.2.2.1) ps (pk kss j).2 q.2.2.2.1 q.2.2.2.2) := fun j => by
        by_cases hj : j < kss.length
        · obtain ⟨x, y, B1, B2, e, hE, hF, _⟩ := hc.el j hj
          have c0 := hc.cell j 0 hj (by omega)
          have c1 := hc.cell j 1 hj (by omega)
          rw [e] at c0 c1
          obtain ⟨a1, d1, rfl⟩ := TSS.slice hE
          obtain ⟨a2, d2, rfl⟩ := TSS.slice hF
          obtain ⟨u1, s1, r1⟩ := (TSS.whole hE).ats ps
          obtain ⟨u2, s2, r2⟩ := (TSS.whole hF).ats ps
          exact ⟨((a1, d1, u1, s1), a2, d2, u2, s2), fun _ => ⟨c0, c1, r1, r2⟩⟩
        · exact ⟨((none, 0, fun _ => none, fun _ => 0), none, 0, fun _ => none, fun _ => 0), fun h => absurd h hj⟩
      obtain ⟨f, hf⟩ := Classical.skolem.1 key
      exact .inr ⟨p, cap, fun j => (f j).1.1, fun j => (f j).2.1, fun j => (f j).1.2.1, fun j => (f j).2.2.1, fun j => (f j).1.2.2.1, fun j => (f j).2.2.2.1, fun j => (f j).1.2.2.2, fun j => (f j).2.2.2.2, rfl, h0, ownsRow_lt hc.row, hf⟩
set_option maxRecDepth 100000 in
set_option maxHeartbeats 4000000 in
theorem arePairs_any (Nn : Nat) (T E : Int) (a3 : Option Addr) (l3 c3 : Nat) (g : Nat) (a6 : Option Addr) (l6 c6 : Nat) (ps : List Int) (Rf : Nat → Int) (kss : List PrV) (n : Nat) (u : Value) (w : World) (hN : 2 ≤ Nn ∧ Nn ≤ 16) (hps : 1 ≤ ps.length ∧ ps.length ≤ 6) (hrg : Rgs w g Nn ps Rf ps.length) (hs : spB Nn ps = true) (hu : PkV w u ps kss) (hl : kss.length ≤ 1048576) (hr : ∀ r ∈ kss, PrLe 1048576 r) :
    Calls Tryz.prog 129 #[.agg #[.int .i64 (Nn : Int), .int .i64 T, .int .i64 E, .slice a3 l3 c3, .slice (some ⟨g, 0, none⟩) ps.length ps.length, .bool false, .slice a6 l6 c6], u, .int .i64 (n : Int)] w fun e w' => e = .returned (.bool (decide (kss.length = n) && pkB Nn ps kss)) ∧ Old w w' := by
  have HU := hidK hu
  have HR := hidK hr
  obtain ⟨a1, c1, rfl⟩ := hu.slice
  have HA : Hid (Old w (w.alloc (.cells #[.int .i64 (Nn : Int), .int .i64 T, .int .i64 E, .slice a3 l3 c3, .slice (some ⟨g, 0, none⟩) ps.length ps.length, .bool false, .slice a6 l6 c6] 81))) := (Old.refl w).alloc _
  have BA : Hid (Bk (w.alloc (.cells #[.int .i64 (Nn : Int), .int .i64 T, .int .i64 E, .slice a3 l3 c3, .slice (some ⟨g, 0, none⟩) ps.length ps.length, .bool false, .slice a6 l6 c6] 81)) w.heap.size #[.int .i64 (Nn : Int), .int .i64 T, .int .i64 E, .slice a3 l3 c3, .slice (some ⟨g, 0, none⟩) ps.length ps.length, .bool false, .slice a6 l6 c6] 81) := Bk.new' w _ _ rfl
  have KP := hidK (fun (xss yss : List (List Int)) W (q : Old w W) (aA aB : Option Addr) (cA cB : Nat) (ux uy : Nat → Option Addr) (dx dy : Nat → Nat) (hx : 0 < xss.length → RowsAt W (.slice aA xss.length cA) ps xss ux dx) (hy : 0 < yss.length → RowsAt W (.slice aB yss.length cB) ps yss uy dy) (hq : PrLe 1048576 (xss, yss)) => rowPairIn_in Nn ps Rf xss yss ux uy dx dy g aA aB cA cB W hN hps (hrg.old q) hs (by have : ((xss.length : Nat) : Int) ≤ 1048576 := hq.1.1; omega) (fun r hr => by have : ((r.length : Nat) : Int) ≤ 1048576 := hq.1.2 r hr; omega) hx (by have : ((yss.length : Nat) : Int) ≤ 1048576 := hq.2.1; omega) (fun r hr => by have : ((r.length : Nat) : Int) ≤ 1048576 := hq.2.2 r hr; omega) hy)
  clear hu hr hs hrg hN hps
  by_cases hm : kss.length = n
  case neg =>
    have HB : Hid ((decide (kss.length = n) && pkB Nn ps kss) = false) := by show _ = _; rw [decide_eq_false hm]; rfl
    have d : ((kss.length : Int) != (n : Int)) = true := by simp; omega
    clear hm
    go_enter Tryz.func129, Tryz.ntmps129
    go_wp2_with fail
    go_ret
    exact ⟨ret_bbK HB.out, HA.out⟩
  have d : ((kss.length : Int) != (n : Int)) = false := by simp; omega
  rw [decide_eq_true hm, Bool.true_and]
  have HNo : Hid (∀ k, k < kss.length → prG Nn ps (pk kss k) = false → pkB Nn ps kss = false) := fun k hk h => pkB_no k hk h
  have HYes : Hid ((∀ k, k < kss.length → prG Nn ps (pk kss k) = true) → pkB Nn ps kss = true) := fun h => pkB_yes h
  generalize pkB Nn ps kss = R at *
  have HM := hidK hm
  clear hm
  go_enter Tryz.func129, Tryz.ntmps129
  go_wp2_with fail
  go_loopw [17] (fun i W => ∃ k : Nat, k ≤ kss.length ∧ i = .int .i64 k ∧ Hid (∀ j, j < k → prG Nn ps (pk kss j) = true) ∧ Hid (Old w W) ∧ Hid (Bk W w.heap.size #[.int .i64 (Nn : Int), .int .i64 T, .int .i64 E, .slice a3 l3 c3, .slice (some ⟨g, 0, none⟩) ps.length ps.length, .bool false, .slice a6 l6 c6] 81)) (fun i _ => kss.length - (intOf i).toNat)
  case atStart => exact ⟨0, by omega, rfl, fun j hj => by omega, HA, BA⟩
  case round =>
    obtain ⟨k, hk, rfl, H1, HG, BK⟩ := hrel
    clear HA BA d
    by_cases hlt : k < kss.length
    · have d1 : decide ((k : Int) < (kss.length : Int)) = true := decide_eq_true (by omega)
      rcases HU.out with ⟨a, cap, e, e2⟩ | ⟨b, cap, aA, aB, cA, cB, ux, uy, dx, dy, e, h3, hc⟩
      · subst e2
        simp at hlt
      simp only [Value.slice.injEq, true_and] at e
      obtain ⟨rfl, rfl⟩ := e
      obtain ⟨s1, s2, r1, r2⟩ := (hc.old HG.out).2 k hlt
      have hmem : pk kss k ∈ kss := by simp [pk, List.getD, hlt]
      have HQ := hidK (HR.out _ hmem)
      have R1 := hidK r1
      have R2 := hidK r2
      have HN1 := hidK (HNo.out k hlt)
      have H1s : Hid (prG Nn ps (pk kss k) = true → ∀ j, j < k + 1 → prG Nn ps (pk kss j) = true) := fun h j hj => by
        rcases Nat.lt_or_ge j k with h5 | h5
        · exact H1.out j h5
        · obtain rfl : j = k := by omega
          exact h
      clear hc r1 r2 hmem H1
      generalize hpq : pk kss k = q at *
      obtain ⟨xss, yss⟩ := q
      simp only at s1 s2
      generalize aA k = xA at *
      generalize cA k = zA at *
      generalize aB k = xB at *
      generalize cB k = zB at *
      obtain ⟨W1, hW1⟩ : ∃ B : World, wr.alloc (.cells #[.slice xA xss.length zA, .slice xB yss.length zB] 77) = B := ⟨_, rfl⟩
      have O1 : Old wr W1 := by rw [← hW1]; exact (Old.refl wr).alloc _
      have X1 : Hid (Bk W1 wr.heap.size #[.slice xA xss.length zA, .slice xB yss.length zB] 77) := by rw [← hW1]; exact Bk.new' wr _ _ rfl
      have B1 := hidK (BK.out.old O1)
      have G1 := hidK (Old.trans HG.out O1)
      have K1 := hidK (KP.out xss yss W1 G1.out xA xB zA zB (ux k) (uy k) (dx k) (dy k) (fun h => (R1.out h).old O1) (fun h => (R2.out h).old O1) HQ.out)
      obtain ⟨kq, hkq⟩ : ∃ k, wr.heap.size = k := ⟨_, rfl⟩
      rw [hkq] at X1
      have y4 := B1.out.c (i := 4) rfl
      have z0 := X1.out.c (i := 0) rfl
      have z1 := X1.out.c (i := 1) rfl
      clear O1 R1 R2 HQ KP
      go_wp2_with fail
      refine K1.out.mono ?_
      rintro e w2 ⟨g2, h⟩
      have G2 := hidK (Old.trans G1.out g2)
      have B2 := hidK (B1.out.old g2)
      clear g2 y4 z0 z1 K1 hW1 hkq
      rcases h with ⟨hg, p, l, c, p', l', c', rfl⟩ | ⟨hg, ga, gb, rfl, hra, hrb⟩
      · have HF := hidK (HN1.out hg)
        clear hg H1s HN1
        go_wp2_with fail
        go_ret
        exact ⟨ret_bbK HF.out, G2.out.alloc _⟩
      · have HS := hidK (H1s.out hg)
        clear hg H1s HN1 hra hrb
        have B3 : Hid (Bk (w2.alloc (.cells #[.slice ga ps.length ps.length, .slice gb ps.length ps.length] 138)) w.heap.size #[.int .i64 (Nn : Int), .int .i64 T, .int .i64 E, .slice a3 l3 c3, .slice (some ⟨g, 0, none⟩) ps.length ps.length, .bool false, .slice a6 l6 c6] 81) := B2.out.alloc _
        have G3 : Hid (Old w (w2.alloc (.cells #[.slice ga ps.length ps.length, .slice gb ps.length ps.length] 138))) := G2.out.alloc _
        go_wp2_with fail
        exact ⟨⟨k + 1, by omega, by go_num, HS, G3, B3⟩, by simp [intOf]; omega⟩
    · have d1 : decide ((k : Int) < (kss.length : Int)) = false := decide_eq_false (by omega)
      obtain rfl : k = kss.length := by omega
      have HF := hidK (HYes.out (fun j hj => H1.out j hj))
      clear HYes HNo
      go_wp2_with fail
      go_ret
      exact ⟨ret_bbK HF.out, HG.out⟩
theorem cmpW_bd {ps : List Int} {qs : List Nat} {ls : List Int} (hG : Good false ls) (hb : Bas qs) (hq : pnN ps = qs) : cmpW false false ls (toI (dig (prodN qs))) = bdC ps ls := by
  have hG2 : Good false (toI (dig (prodN qs))) := dig_good9 (by have := hb.cnt; omega)
  unfold cmpW bdC
  rw [if_pos ⟨hG, hG2⟩, hq, nat_toI9]
  show cmpI ((val (nat ls) : Nat) : Int) ((val (dig (prodN qs)) : Nat) : Int) = _
  rw [show val (dig (prodN qs)) = prodN qs from val_dig _]
  unfold cmpI cmpN
  by_cases h1 : val (nat ls) < prodN qs
  · rw [if_pos h1, if_pos (by omega)]
  · rw [if_neg h1, if_neg (by omega)]
    by_cases h2 : prodN qs < val (nat ls)
    · rw [if_pos h2, if_pos (by omega)]
    · rw [if_neg h2, if_neg (by omega)]
set_option maxRecDepth 100000 in
set_option maxHeartbeats 4000000 in
theorem isCipherBound_of (N T E : Int) (a3 : Option Addr) (l3 c3 : Nat) (a4 : Option Addr) (l4 c4 : Nat) (a6 : Option Addr) (l6 c6 : Nat) (sg G : Bool) (a : Option Addr) (l c : Nat) (m : Int) (w : World) (KF : ∀ W, Old w W → Calls Tryz.prog 147 #[.agg #[.bool sg, .slice a l c]] W fun e w' => e = .returned (.bool G) ∧ Old W w')
    (KC : G = true → ∀ W, Old w W → Calls Tryz.prog 148 #[.agg #[.bool sg, .slice a l c], .agg #[.bool false, .slice a6 l6 c6]] W fun e w' => e = .returned (.int .i64 m) ∧ Old W w') :
    Calls Tryz.prog 133 #[.agg #[.int .i64 N, .int .i64 T, .int .i64 E, .slice a3 l3 c3, .slice a4 l4 c4, .bool false, .slice a6 l6 c6], .agg #[.bool sg, .slice a l c]] w fun e w' => e = .returned (.bool (G && decide (m ≤ 0))) ∧ Old w w' := by
  obtain ⟨W1, hW1⟩ : ∃ B : World, (w.alloc (.cells #[.int .i64 N, .int .i64 T, .int .i64 E, .slice a3 l3 c3, .slice a4 l4 c4, .bool false, .slice a6 l6 c6] 81)).alloc (.cells #[.bool sg, .slice a l c] 57) = B := ⟨_, rfl⟩
  have O1 : Hid (Old w W1) := by rw [← hW1]; exact ((Old.refl w).alloc _).alloc _
  have P1 : Hid (Bk W1 w.heap.size #[.int .i64 N, .int .i64 T, .int .i64 E, .slice a3 l3 c3, .slice a4 l4 c4, .bool false, .slice a6 l6 c6] 81) := by rw [← hW1]; exact (Bk.new' w _ _ rfl).alloc _
  have Q1 : Hid (Bk W1 (w.heap.size + 1) #[.bool sg, .slice a l c] 57) := by rw [← hW1]; exact Bk.new' _ _ _ (by simp)
  obtain ⟨kp, hkp⟩ : ∃ k, w.heap.size = k := ⟨_, rfl⟩
  rw [hkp] at P1 Q1
  have x0 := Q1.out.c (i := 0) rfl
  have x1 := Q1.out.c (i := 1) rfl
  cases G
  · clear KC
    go_enter Tryz.func133, Tryz.ntmps133
    go_wp2_with fail
    refine (KF _ O1.out).mono ?_
    rintro e w1 ⟨rfl, g1⟩
    have G1 := hidK (Old.trans O1.out g1)
    clear g1 x0 x1
    go_wp2_with fail
    go_ret
    exact ⟨rfl, G1.out⟩
  · have KC' := hidK (KC rfl)
    clear KC
    go_enter Tryz.func133, Tryz.ntmps133
    go_wp2_with fail
    refine (KF _ O1.out).mono ?_
    rintro e w1 ⟨rfl, g1⟩
    have G1 := hidK (Old.trans O1.out g1)
    have P2 := hidK (P1.out.old g1)
    have Q2 := hidK (Q1.out.old g1)
    clear g1 x0 x1 P1 Q1 hW1 hkp
    have x0 := Q2.out.c (i := 0) rfl
    have x1 := Q2.out.c (i := 1) rfl
    have y5 := P2.out.c (i := 5) rfl
    have y6 := P2.out.c (i := 6) rfl
    go_wp2_with fail
    refine (KC'.out _ G1.out).mono ?_
    rintro e w2 ⟨rfl, g2⟩
    have G2 := hidK (Old.trans G1.out g2)
    clear g2 x0 x1 y5 y6
    go_wp2_with fail
    go_ret
    exact ⟨rfl, G2.out⟩
end Go.Proofs.YtanijpekdnkicaaGreatDoor
/- Proved: the contract of the program's isGoodBox, under what it calls. -/
namespace Go.Proofs.YtanijpekdnkicaaGreatDoor
open Go.ChangeShapes Go.WideShapes Go.ChangeAt Go.RowKit
set_option linter.unusedVariables false
set_option linter.unusedSimpArgs false
theorem reg_Gb1 (w0 : World) (bx : Nat) (kd N T E : Int) (a0 : Option Addr) (l0 c0 : Nat) (a1 : Option Addr) (l1 c1 : Nat) (a2 : Option Addr) (l2 c2 : Nat) (sg : Bool) (a3 : Option Addr) (l3 c3 : Nat) (a4 : Option Addr) (l4 c4 : Nat) (NC : Bool) (hNC : NC = (((l2 : Int) == 0) && (((l3 : Int) == 0) && !sg))) (b_bx : w0.heap[bx]? = some (.cells #[.int .i64 kd, .int .i64 N, .int .i64 T, .int .i64 E, .slice a0 l0 c0, .slice a1 l1 c1, .slice a2 l2 c2, .bool sg, .slice a3 l3 c3, .slice a4 l4 c4] 59 (0, 0)))
    (Q : Exit → Act → World → Prop) (b0 : Act) (hsz : b0.tmps.size = 89) (ha3 : b0.eval (.tmp 3) = .pointer (some ⟨bx, 0, none⟩))
    (HK : Hid (∀ (us : Nat → Value) (W : World) , Old w0 W → us 22 = .bool ((l1 : Int) == 0) → Q .normal ((putAll b0 ((List.range 23).map fun i => (slotGba i, us i))).put (some 6) (.bool NC)) W)) :
    Code.wp Tryz.prog ((Tryz.f100.body.bind (regionAtmul 1)).getD .skip) Q b0 w0 := by
  cases h2 : ((l2 : Int) == 0)
  · rw [h2, Bool.false_and] at hNC
    subst hNC
    exact reg_Gba w0 bx kd N T E a0 l0 c0 a1 l1 c1 a2 l2 c2 sg a3 l3 c3 a4 l4 c4 b_bx h2 Q b0 hsz ha3 HK
  · rw [h2, Bool.true_and] at hNC
    cases h3 : ((l3 : Int) == 0)
    · rw [h3, Bool.false_and] at hNC
      subst hNC
      exact reg_Gbb w0 bx kd N T E a0 l0 c0 a1 l1 c1 a2 l2 c2 sg a3 l3 c3 a4 l4 c4 b_bx h2 h3 Q b0 hsz ha3 HK
    · rw [h3, Bool.true_and] at hNC
      subst hNC
      exact reg_Gbc w0 bx kd N T E a0 l0 c0 a1 l1 c1 a2 l2 c2 sg a3 l3 c3 a4 l4 c4 b_bx h2 h3 Q b0 hsz ha3 HK
set_option maxRecDepth 100000 in
set_option maxHeartbeats 8000000 in
theorem isGoodBox_of (kd N T E : Int) (a0 : Option Addr) (l0 c0 : Nat) (a1 : Option Addr) (l1 c1 : Nat) (a2 : Option Addr) (l2 c2 : Nat) (sg : Bool) (a3 : Option Addr) (l3 c3 : Nat) (a4 : Option Addr) (l4 c4 : Nat) (ag : Option Addr) (lg cg : Nat) (a6 : Option Addr) (l6 c6 : Nat) (n : Nat) (BP BT BS BC BB BK NC R : Bool) (w : World) (hR : R = (BP && (if kd = 2 then NC && BT else if kd = 4 then NC && BS else if kd = 3 then ((l1 : Int) == 0) && (BC && BB) else ((l1 : Int) == 0) && (NC && BK)))) (hNC : NC = (((l2 : Int) == 0) && (((l3 : Int) == 0) && !sg)))
    (KPc : ∀ W, Old w W → Calls Tryz.prog 130 #[.agg #[.int .i64 N, .int .i64 T, .int .i64 E, .slice a0 l0 c0, .slice ag lg cg, .bool false, .slice a6 l6 c6], .int .i64 kd] W fun e w' => e = .returned (.int .i64 (n : Int)) ∧ Old W w')
    (KAp : ∀ W, Old w W → Calls Tryz.prog 129 #[.agg #[.int .i64 N, .int .i64 T, .int .i64 E, .slice a0 l0 c0, .slice ag lg cg, .bool false, .slice a6 l6 c6], .slice a4 l4 c4, .int .i64 (n : Int)] W fun e w' => e = .returned (.bool BP) ∧ Old W w')
    (KPl : ∀ W, Old w W → Calls Tryz.prog 131 #[.agg #[.int .i64 N, .int .i64 T, .int .i64 E, .slice a0 l0 c0, .slice ag lg cg, .bool false, .slice a6 l6 c6], .slice a1 l1 c1] W fun e w' => e = .returned (.bool BT) ∧ Old W w')
    (KSe : ∀ W, Old w W → Calls Tryz.prog 132 #[.agg #[.int .i64 N, .int .i64 T, .int .i64 E, .slice a0 l0 c0], .slice a1 l1 c1] W fun e w' => e = .returned (.bool BS) ∧ Old W w')
    (KRd : ∀ W, Old w W → Calls Tryz.prog 84 #[.agg #[.int .i64 N, .int .i64 T, .int .i64 E, .slice a0 l0 c0, .slice ag lg cg, .bool false, .slice a6 l6 c6], .agg #[.slice a2 l2 c2]] W fun e w' => Old W w' ∧ ∃ z, e = .returned (.tuple #[z, .bool BC]))
    (KBd : ∀ W, Old w W → Calls Tryz.prog 133 #[.agg #[.int .i64 N, .int .i64 T, .int .i64 E, .slice a0 l0 c0, .slice ag lg cg, .bool false, .slice a6 l6 c6], .agg #[.bool sg, .slice a3 l3 c3]] W fun e w' => e = .returned (.bool BB) ∧ Old W w')
    (KKd : ∀ W, Calls Tryz.prog 134 #[.int .i64 kd] W fun e w' => e = .returned (.bool BK) ∧ Old W w') :
    Calls Tryz.prog 100 #[.agg #[.int .i64 N, .int .i64 T, .int .i64 E, .slice a0 l0 c0, .slice ag lg cg, .bool false, .slice a6 l6 c6], .agg #[.int .i64 kd, .int .i64 N, .int .i64 T, .int .i64 E, .slice a0 l0 c0, .slice a1 l1 c1, .slice a2 l2 c2, .bool sg, .slice a3 l3 c3, .slice a4 l4 c4]] w fun e w' => e = .returned (.bool R) ∧ Old w w' := by
  have HNC := hidK hNC
  have HPc := hidK KPc
  have HAp := hidK KAp
  have HPl := hidK KPl
  have HSe := hidK KSe
  have HRd := hidK KRd
  have HBd := hidK KBd
  have HKd := hidK KKd
  obtain ⟨W1, hW1⟩ : ∃ B : World, (w.alloc (.cells #[.int .i64 N, .int .i64 T, .int .i64 E, .slice a0 l0 c0, .slice ag lg cg, .bool false, .slice a6 l6 c6] 81)).alloc (.cells #[.int .i64 kd, .int .i64 N, .int .i64 T, .int .i64 E, .slice a0 l0 c0, .slice a1 l1 c1, .slice a2 l2 c2, .bool sg, .slice a3 l3 c3, .slice a4 l4 c4] 59) = B := ⟨_, rfl⟩
  have O1 : Hid (Old w W1) := by rw [← hW1]; exact ((Old.refl w).alloc _).alloc _
  have P1 : Hid (Bk W1 w.heap.size #[.int .i64 N, .int .i64 T, .int .i64 E, .slice a0 l0 c0, .slice ag lg cg, .bool false, .slice a6 l6 c6] 81) := by rw [← hW1]; exact (Bk.new' w _ _ rfl).alloc _
  have Q1 : Hid (Bk W1 (w.heap.size + 1) #[.int .i64 kd, .int .i64 N, .int .i64 T, .int .i64 E, .slice a0 l0 c0, .slice a1 l1 c1, .slice a2 l2 c2, .bool sg, .slice a3 l3 c3, .slice a4 l4 c4] 59) := by rw [← hW1]; exact Bk.new' _ _ _ (by simp)
  obtain ⟨kp, hkp⟩ : ∃ k, w.heap.size = k := ⟨_, rfl⟩
  rw [hkp] at P1 Q1
  obtain ⟨NP, hNP⟩ : ∃ b : Bool, ((l1 : Int) == 0) = b := ⟨_, rfl⟩
  have HNP := hidK hNP
  rw [hNP] at hR
  have HR := hidK hR
  clear hR hNC KPc KAp KPl KSe KRd KBd KKd hNP
  go_enter Tryz.func100, Tryz.ntmps100
  go_wp2_with fail
  refine reg_Gb1 W1 (kp + 1) kd N T E a0 l0 c0 a1 l1 c1 a2 l2 c2 sg a3 l3 c3 a4 l4 c4 NC HNC.out Q1.out _ _ ?_ ?_ ?_
  iterate 2 (· exact rfl)
  intro us W2 g2 h22
  rw [HNP.out] at h22
  have G2 := hidK (Old.trans O1.out g2)
  have P2 := hidK (P1.out.old g2)
  have Q2 := hidK (Q1.out.old g2)
  simp only [putAll, Act.put, slotGba, List.range, List.range.loop, List.map_cons, List.map_nil, List.getD_cons_zero, List.getD_cons_succ, List.setIfInBounds_toArray, List.set_cons_succ, List.set_cons_zero]
  simp only [h22]
  clear g2 h22 P1 Q1 O1 hW1 hkp
  go_wp2_with fail
  refine reg_Gbd W2 kp N T E a0 l0 c0 ag lg cg a6 l6 c6 (kp + 1) kd N T E a0 l0 c0 a1 l1 c1 a2 l2 c2 sg a3 l3 c3 a4 l4 c4 n BP Q2.out P2.out (fun W q => HPc.out W (Old.trans G2.out q)) (fun W q => HAp.out W (Old.trans G2.out q)) _ _ ?_ ?_ ?_ ?_
  iterate 3 (· exact rfl)
  intro vs W3 g3 h8
  have G3 := hidK (Old.trans G2.out g3)
  have P3 := hidK (P2.out.old g3)
  have Q3 := hidK (Q2.out.old g3)
  simp only [putAll, Act.put, slotGbd, List.range, List.range.loop, List.map_cons, List.map_nil, List.getD_cons_zero, List.getD_cons_succ, List.setIfInBounds_toArray, List.set_cons_succ, List.set_cons_zero]
  simp only [h8]
  clear g3 h8 P2 Q2 G2 HPc HAp
  cases BP
  · skip
    go_wp2_with fail
    go_ret
    exact ⟨by rw [HR.out]; simp, G3.out⟩
  skip
  have y0 := Q3.out.c (i := 0) rfl
  by_cases h2 : kd = 2
  · subst h2
    cases NC
    · skip
      go_wp2_with fail
      go_ret
      exact ⟨by rw [HR.out]; simp, G3.out⟩
    · skip
      have r0 := P3.out.c (i := 0) rfl
      have r1 := P3.out.c (i := 1) rfl
      have r2 := P3.out.c (i := 2) rfl
      have r3 := P3.out.c (i := 3) rfl
      have r4 := P3.out.c (i := 4) rfl
      have r5 := P3.out.c (i := 5) rfl
      have r6 := P3.out.c (i := 6) rfl
      have y5 := Q3.out.c (i := 5) rfl
      go_wp2_with fail
      refine (HPl.out _ G3.out).mono ?_
      rintro e w4 ⟨rfl, g4⟩
      have G4 := hidK (Old.trans G3.out g4)
      clear g4
      go_wp2_with fail
      go_ret
      exact ⟨by rw [HR.out]; simp, G4.out⟩
  have H2 := hidK h2
  have e2 : (kd == 2) = false := by simp [h2]
  by_cases h4 : kd = 4
  · subst h4
    cases NC
    · skip
      go_wp2_with fail
      go_ret
      exact ⟨by rw [HR.out]; simp [H2.out], G3.out⟩
    · skip
      have r0 := P3.out.c (i := 0) rfl
      have r1 := P3.out.c (i := 1) rfl
      have r2 := P3.out.c (i := 2) rfl
      have r3 := P3.out.c (i := 3) rfl
      have y5 := Q3.out.c (i := 5) rfl
      go_wp2_with fail
      refine (HSe.out _ G3.out).mono ?_
      rintro e w4 ⟨rfl, g4⟩
      have G4 := hidK (Old.trans G3.out g4)
      clear g4
      go_wp2_with fail
      go_ret
      exact ⟨by rw [HR.out]; simp [H2.out], G4.out⟩
  have H4 := hidK h4
  have e4 : (kd == 4) = false := by simp [h4]
  by_cases h3 : kd = 3
  · subst h3
    have r0 := P3.out.c (i := 0) rfl
    have r1 := P3.out.c (i := 1) rfl
    have r2 := P3.out.c (i := 2) rfl
    have r3 := P3.out.c (i := 3) rfl
    have r4 := P3.out.c (i := 4) rfl
    have r5 := P3.out.c (i := 5) rfl
    have r6 := P3.out.c (i := 6) rfl
    have y6 := Q3.out.c (i := 6) rfl
    go_wp2_with fail
    refine (HRd.out _ G3.out).mono ?_
    rintro e w4 ⟨g4, z, rfl⟩
    have G4 := hidK (Old.trans G3.out g4)
    have P4 := hidK (P3.out.old g4)
    have Q4 := hidK (Q3.out.old g4)
    clear g4 r0 r1 r2 r3 r4 r5 r6 y6 y0 P3 Q3 G3
    cases NP
    · skip
      go_wp2_with fail
      go_ret
      exact ⟨by rw [HR.out]; simp [H2.out, H4.out], G4.out⟩
    skip
    cases BC
    · skip
      go_wp2_with fail
      go_ret
      exact ⟨by rw [HR.out]; simp [H2.out, H4.out], G4.out⟩
    skip
    have r0 := P4.out.c (i := 0) rfl
    have r1 := P4.out.c (i := 1) rfl
    have r2 := P4.out.c (i := 2) rfl
    have r3 := P4.out.c (i := 3) rfl
    have r4 := P4.out.c (i := 4) rfl
    have r5 := P4.out.c (i := 5) rfl
    have r6 := P4.out.c (i := 6) rfl
    have y7 := Q4.out.c (i := 7) rfl
    have y8 := Q4.out.c (i := 8) rfl
    go_wp2_with fail
    refine (HBd.out _ G4.out).mono ?_
    rintro e w5 ⟨rfl, g5⟩
    have G5 := hidK (Old.trans G4.out g5)
    clear g5
    go_wp2_with fail
    go_ret
    exact ⟨by rw [HR.out]; simp [H2.out, H4.out], G5.out⟩
  have H3 := hidK h3
  have e3 : (kd == 3) = false := by simp [h3]
  clear h2 h3 h4
  cases NP
  · skip
    go_wp2_with fail
    go_ret
    exact ⟨by rw [HR.out]; simp [H2.out, H4.out, H3.out], G3.out⟩
  skip
  cases NC
  · skip
    go_wp2_with fail
    go_ret
    exact ⟨by rw [HR.out]; simp [H2.out, H4.out, H3.out], G3.out⟩
  skip
  go_wp2_with fail
  refine (HKd.out _).mono ?_
  rintro e w4 ⟨rfl, g4⟩
  have G4 := hidK (Old.trans G3.out g4)
  clear g4
  go_wp2_with fail
  go_ret
  exact ⟨by rw [HR.out]; simp [H2.out, H4.out, H3.out], G4.out⟩
end Go.Proofs.YtanijpekdnkicaaGreatDoor
/- Proved: the contract of the program's GoodBox. -/
namespace Go.Proofs.YtanijpekdnkicaaGreatDoor
open Go.ChangeShapes Go.WideShapes Go.ChangeAt Go.RowKit
open M1
open M2
set_option linter.unusedVariables false
set_option linter.unusedSimpArgs false
set_option maxRecDepth 100000 in
set_option maxHeartbeats 4000000 in
theorem pairCount_o (N T E kd : Int) (a3 : Option Addr) (l3 c3 : Nat) (a4 : Option Addr) (l4 c4 : Nat) (a6 : Option Addr) (l6 c6 : Nat) (w : World) (h5 : ¬ kd = 5) (h6 : ¬ kd = 6) : Calls Tryz.prog 130 #[.agg #[.int .i64 N, .int .i64 T, .int .i64 E, .slice a3 l3 c3, .slice a4 l4 c4, .bool false, .slice a6 l6 c6], .int .i64 kd] w fun e w' => e = .returned (.int .i64 0) ∧ Old w w' := by
  have e5 : (kd == 5) = false := by simp [h5]
  have e6 : (kd == 6) = false := by simp [h6]
  clear h5 h6
  go_enter Tryz.func130, Tryz.ntmps130
  go_wp2_with fail
  go_ret
  exact ⟨rfl, (Old.refl w).alloc _⟩
theorem pairCount_k (N T E kd : Int) (ps : List Int) (a3 : Option Addr) (c3 : Nat) (a4 : Option Addr) (l4 c4 : Nat) (a6 : Option Addr) (l6 c6 : Nat) (w : World) : Calls Tryz.prog 130 #[.agg #[.int .i64 N, .int .i64 T, .int .i64 E, .slice a3 ps.length c3, .slice a4 l4 c4, .bool false, .slice a6 l6 c6], .int .i64 kd] w fun e w' => e = .returned (.int .i64 (kcN kd ps : Int)) ∧ Old w w' := by
  unfold kcN
  by_cases h5 : kd = 5
  · subst h5
    exact pairCount_5 N T E a3 ps.length c3 a4 l4 c4 a6 l6 c6 w
  · by_cases h6 : kd = 6
    · subst h6
      exact pairCount_6 N T E a3 ps.length c3 a4 l4 c4 a6 l6 c6 w
    · rw [if_neg h5, if_neg h6]
      exact pairCount_o N T E kd a3 ps.length c3 a4 l4 c4 a6 l6 c6 w h5 h6
theorem bxB_same (kd N T E : Int) (ps pl : List Int) (xs3 : List (List (List Int))) (sg : Bool) (ls : List Int) (kss : List PrV) (hp : prB N T E ps = true) : ((decide (kss.length = kcN kd ps) && pkB N ps kss) && (if kd = 2 then noC xs3 sg ls && polyB T N pl else if kd = 4 then noC xs3 sg ls && wiB N 1 pl else if kd = 3 then ((pl.length : Int) == 0) && (ciB N ps xs3 && ((decide (Good sg ls) && !sg) && decide (bdC ps ls ≤ 0))) else ((pl.length : Int) == 0) && (noC xs3 sg ls && decide (1 ≤ kd ∧ kd ≤ 6)))) = bxB kd N T E ps pl xs3 sg ls kss := by
  unfold bxB ccB plB bdB
  rw [hp, eq0_len, show (decide (kss.length = kcN kd ps) && pkB N ps kss) = kpB kd N ps kss from rfl]
  generalize kpB kd N ps kss = b0
  generalize noC xs3 sg ls = b1
  generalize polyB T N pl = b2
  generalize wiB N 1 pl = b3
  generalize ciB N ps xs3 = b4
  generalize decide (Good sg ls) = b5
  generalize decide (bdC ps ls ≤ 0) = b6
  generalize decide (pl.length = 0) = b7
  by_cases h2 : kd = 2
  · subst h2
    cases b0 <;> cases b1 <;> cases b2 <;> rfl
  · by_cases h4 : kd = 4
    · subst h4
      cases b0 <;> cases b1 <;> cases b3 <;> rfl
    · by_cases h3 : kd = 3
      · subst h3
        cases b0 <;> cases b4 <;> cases b5 <;> cases b6 <;> cases b7 <;> cases sg <;> rfl
      · simp only [h2, h3, h4, if_false]
        generalize decide (1 ≤ kd ∧ kd ≤ 6) = b8
        cases b0 <;> cases b1 <;> cases b7 <;> cases b8 <;> rfl
set_option maxRecDepth 100000 in
set_option maxHeartbeats 8000000 in
theorem impl_GoodBox (kd N T E : Int) (ps pl : List Int) (xs3 : List (List (List Int))) (sg : Bool) (ls : List Int) (kss : List PrV) (lo hi : Nat) (gv : Array Value) (w : World) (hP : PrsW w) (hT : TabW w) (hv : XBx kd N T E ps pl xs3 sg ls kss w lo hi gv) (hl : BoxLe 1048576 ps pl xs3 ls kss) :
    Calls Tryz.prog 67 #[.agg gv] w fun e w' => e = .returned (.bool (bxB kd N T E ps pl xs3 sg ls kss)) ∧ Old w w' := by
  obtain ⟨l0, l1, l2, l2', l3, l4, l4'⟩ := hl
  obtain ⟨a0, c0, a1, c1, a2, c2, a3, c3, a4, c4, m1, m2, m3, m4, rfl, hm, h0, h1, h2, h3, h4⟩ := hv
  obtain ⟨x0, y0, e0, o0, f0⟩ := h0
  obtain ⟨x1, y1, e1, o1, f1⟩ := h1
  obtain ⟨x2, y2, e2, o2⟩ := h2
  obtain ⟨x3, y3, e3, o3⟩ := h3
  simp at e0 e1 e2 e3
  obtain ⟨rfl, rfl⟩ := e0
  obtain ⟨rfl, rfl⟩ := e1
  obtain ⟨rfl, rfl⟩ := e2
  obtain ⟨rfl, rfl⟩ := e3
  have r0 := hidK o0.row
  have r1 := hidK o1.row
  have r3 := hidK o3.row
  obtain ⟨_, BK, hTK, _⟩ := h4
  have r4 := hidK (TKS.at ps hTK)
  have hfit : Fit (.slice a0 ps.length c0) := f0
  obtain ⟨au, cu, uf, cf, hpa⟩ : ∃ au cu uf cf, 0 < xs3.length → ∃ b, a2 = some ⟨b, 0, none⟩ ∧ PaT w b ps xs3 au cu uf cf := by
    rcases Nat.eq_zero_or_pos xs3.length with h0 | h0
    · exact ⟨fun _ => none, fun _ => 0, fun _ _ => none, fun _ _ => 0, fun h => by omega⟩
    · obtain ⟨_, B, hT, _⟩ := o2
      obtain ⟨b, cap, au, cu, uf, cf, e, hp⟩ := TTT.at ps hT h0
      simp only [Value.slice.injEq, true_and] at e
      exact ⟨au, cu, uf, cf, fun _ => ⟨b, e.1, hp⟩⟩
  have HPA := hidK hpa
  obtain ⟨Rf, hRf⟩ := Rings_roots N ps
  have K1 := hidK (fun W (q : Old w W) => impl_reckonerOf N T E ps Rf (.slice a0 ps.length c0) W (hP.old q) (hT.old q) (r0.out.old q) hfit (by omega) hRf)
  obtain ⟨W1, hW1⟩ : ∃ B : World, w.alloc (.cells #[.int .i64 kd, .int .i64 N, .int .i64 T, .int .i64 E, .slice a0 ps.length c0, .slice a1 pl.length c1, .slice a2 xs3.length c2, .bool sg, .slice a3 ls.length c3, .slice a4 kss.length c4] 59) = B := ⟨_, rfl⟩
  have O1 : Hid (Old w W1) := by rw [← hW1]; exact (Old.refl w).alloc _
  have P1 : Hid (Bk W1 w.heap.size #[.int .i64 kd, .int .i64 N, .int .i64 T, .int .i64 E, .slice a0 ps.length c0, .slice a1 pl.length c1, .slice a2 xs3.length c2, .bool sg, .slice a3 ls.length c3, .slice a4 kss.length c4] 59) := by rw [← hW1]; exact Bk.new' w _ _ rfl
  obtain ⟨kp, hkp⟩ : ∃ k, w.heap.size = k := ⟨_, rfl⟩
  rw [hkp] at P1
  have x1 := P1.out.c (i := 1) rfl
  have x2 := P1.out.c (i := 2) rfl
  have x3 := P1.out.c (i := 3) rfl
  have x4 := P1.out.c (i := 4) rfl
  have L0 := hidK l0
  have L1 := hidK l1
  have L2 := hidK l2
  have L2' := hidK l2'
  have L3 := hidK l3
  have L4 := hidK l4
  have L4' := hidK l4'
  clear o0 o1 o2 o3 hTK hpa hP hT hRf hm f0 f1 l0 l1 l2 l2' l3 l4 l4'
  go_enter Tryz.func67, Tryz.ntmps67
  go_wp2_with fail
  refine (K1.out _ O1.out).mono ?_
  rintro e w1 ⟨g1, h⟩
  have G1 := hidK (Old.trans O1.out g1)
  have P2 := hidK (P1.out.old g1)
  clear g1 K1 x1 x2 x3 x4 P1 O1 hW1 hkp
  rcases h with ⟨hB, rfl⟩ | ⟨hB, g, a, l, c, hg, rfl, hrg, qs, eqs, hbs, hl, hown⟩
  · have HB : Hid (bxB kd N T E ps pl xs3 sg ls kss = false) := by show _ = _; unfold bxB; rw [hB]; simp
    clear hB
    go_wp2_with fail
    go_ret
    exact ⟨ret_bbK HB.out, G1.out.alloc _⟩
  · have HB := hidK (bxB_same kd N T E ps pl xs3 sg ls kss hB)
    have hps : 1 ≤ ps.length ∧ ps.length ≤ 6 := by have := prB_len hB; omega
    have hTT := prB_T hB
    have hsp := prB_sp hB
    obtain ⟨hz4, hbb, _⟩ := sp_ring hsp
    have hqs : pnN ps = qs := by unfold pnN; rw [eqs]; exact toZ_back qs
    obtain ⟨Nn, rfl⟩ : ∃ Nn : Nat, N = (Nn : Int) := ⟨N.toNat, by omega⟩
    have hN : 2 ≤ Nn ∧ Nn ≤ 16 := by omega
    have HW := hidK (Own.row hown)
    subst hl
    have RG := hidK hrg
    have KQ := hidK (fun W (q : Old w1 W) => isGoodBox_of kd Nn T E a0 ps.length c0 a1 pl.length c1 a2 xs3.length c2 sg a3 ls.length c3 a4 kss.length c4 (some ⟨g, 0, none⟩) ps.length ps.length a (dig (prodN qs)).length c (kcN kd ps) (decide (kss.length = kcN kd ps) && pkB Nn ps kss) (polyB T Nn pl) (wiB Nn 1 pl) (ciB Nn ps xs3) ((decide (Good sg ls) && !sg) && decide (bdC ps ls ≤ 0)) (decide (1 ≤ kd ∧ kd ≤ 6)) (noC xs3 sg ls) (bxB kd Nn T E ps pl xs3 sg ls kss) W HB.out.symm (by unfold noC; rw [eq0_len, eq0_len])
      (fun W' q' => pairCount_k Nn T E kd ps a0 c0 _ ps.length ps.length a _ c W')
      (fun W' q' => arePairs_any Nn T E a0 ps.length c0 g a _ c ps Rf kss (kcN kd ps) _ W' hN hps (RG.out.old (Old.trans q q')) hsp (r4.out.old (Old.trans G1.out (Old.trans q q'))) L4.out L4'.out)
      (fun W' q' => isPlain_any Nn T E _ _ _ _ rfl rfl rfl rfl pl _ W' (r1.out.old (Old.trans G1.out (Old.trans q q'))) (by have := L1.out; omega) (by omega) ⟨_, _, _, _, _, _, _, _, _, _, rfl, rfl, rfl, rfl⟩)
      (fun W' q' => isSecret_any Nn T E a0 ps.length c0 pl _ W' (r1.out.old (Old.trans G1.out (Old.trans q q'))) (by have := L1.out; omega))
      (fun W' q' => (read_good Nn T E a0 ps.length c0 g false a (dig (prodN qs)).length c a2 c2 W' ps Rf xs3 au cu uf cf L2.out L2'.out (fun h0 => by
        obtain ⟨b, e, hp⟩ := HPA.out h0
        exact ⟨b, e, hp.old (Old.trans G1.out (Old.trans q q'))⟩) (RG.out.old (Old.trans q q')) hsp).mono fun e w' h => by
          obtain ⟨g2, z, e2⟩ := h.any
          exact ⟨g2, z, e2⟩)
      (fun W' q' => isCipherBound_of Nn T E a0 ps.length c0 _ ps.length ps.length a _ c sg (decide (Good sg ls) && !sg) a3 ls.length c3 (bdC ps ls) W' (fun W2 q2 => isFrom_ab sg (decide (Good sg ls)) a3 ls.length c3 W2 (fun W3 q3 => good_impl sg ls _ W3 (r3.out.old (Old.trans G1.out (Old.trans q (Old.trans q' (Old.trans q2 q3))))) L3.out)) (fun hG W2 q2 => by
        rw [Bool.and_eq_true, decide_eq_true_eq] at hG
        obtain ⟨hG1, hG2⟩ := hG
        have hsg : sg = false := by simpa using hG2
        subst hsg
        have h5 := impl_cmp false false ls (toI (dig (prodN qs))) (.slice a3 ls.length c3) (.slice a (dig (prodN qs)).length c) W2 (r3.out.old (Old.trans G1.out (Old.trans q (Old.trans q' q2)))) (HW.out.old (Old.trans q (Old.trans q' q2))) L3.out (by simp [toI]; have := hbs.cnt; unfold cnt at this; omega)
        rw [cmpW_bd hG1 hbs hqs] at h5
        exact h5))
      (fun W' => (isKind_any kd W' _ rfl).mono fun e w' h => ⟨h.1, by rw [h.2]; exact Old.refl W'⟩))
    have P3 : Hid (Bk (w1.alloc (.cells #[.int .i64 (Nn : Int), .int .i64 T, .int .i64 E, .slice a0 ps.length c0, .slice (some ⟨g, 0, none⟩) ps.length ps.length, .bool false, .slice a (dig (prodN qs)).length c] 81)) kp #[.int .i64 kd, .int .i64 (Nn : Int), .int .i64 T, .int .i64 E, .slice a0 ps.length c0, .slice a1 pl.length c1, .slice a2 xs3.length c2, .bool sg, .slice a3 ls.length c3, .slice a4 kss.length c4] 59) := P2.out.alloc _
    have O3 : Hid (Old w1 (w1.alloc (.cells #[.int .i64 (Nn : Int), .int .i64 T, .int .i64 E, .slice a0 ps.length c0, .slice (some ⟨g, 0, none⟩) ps.length ps.length, .bool false, .slice a (dig (prodN qs)).length c] 81))) := (Old.refl w1).alloc _
    have y0 := P3.out.c (i := 0) rfl
    have y1 := P3.out.c (i := 1) rfl
    have y2 := P3.out.c (i := 2) rfl
    have y3 := P3.out.c (i := 3) rfl
    have y4 := P3.out.c (i := 4) rfl
    have y5 := P3.out.c (i := 5) rfl
    have y6 := P3.out.c (i := 6) rfl
    have y7 := P3.out.c (i := 7) rfl
    have y8 := P3.out.c (i := 8) rfl
    have y9 := P3.out.c (i := 9) rfl
    have KQ2 := hidK (KQ.out _ O3.out)
    clear hB hps hTT hsp hz4 hbb hqs hN hown eqs hbs hg hrg KQ
    obtain ⟨R, hR⟩ : ∃ R, bxB kd Nn T E ps pl xs3 sg ls kss = R := ⟨_, rfl⟩
    have HRR := hidK hR
    rw [hR] at KQ2
    clear HB hR
    generalize (dig (prodN qs)).length = zl at *
    go_wp2_with fail
    refine KQ2.out.mono ?_
    rintro e w4 ⟨rfl, g4⟩
    have G4 := hidK (Old.trans G1.out (Old.trans O3.out g4))
    clear g4
    go_wp2_with fail
    go_ret
    exact ⟨ret_bbK HRR.out, G4.out⟩
end Go.Proofs.YtanijpekdnkicaaGreatDoor
