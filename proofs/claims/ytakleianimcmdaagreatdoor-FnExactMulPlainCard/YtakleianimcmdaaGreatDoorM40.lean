/- Proved: several texts in one: what each proves is said ahead of it. -/
import Derived.Test.YtakleianimcmdaaGreatDoorM39
import Derived.Test.YtakleianimcmdaaGreatDoorM37
import Derived.Test.YtakleianimcmdaaGreatDoorSmb
import Derived.Test.YtakleianimcmdaaGreatDoorM04
import Derived.Test.YtakleianimcmdaaGreatDoorM15
import Derived.Test.YtakleianimcmdaaGreatDoorAdl2
import Derived.Test.YtakleianimcmdaaGreatDoorM12
import Derived.Test.YtakleianimcmdaaGreatDoorM18
import Derived.Maps.AppendAt
/- Proved: the drawn region of MulPlain: the rows of the plain are made, and boxed. -/
namespace Go.Proofs.YtakleianimcmdaaGreatDoor
open Go.ChangeShapes Go.WideShapes Go.ChangeAt Go.RowKit
set_option linter.unusedVariables false
set_option linter.unusedSimpArgs false
def slotMs (i : Nat) : Nat := [37, 38, 39, 40, 41, 42, 12].getD i 0
theorem slotMs_lt : ∀ i, i < 7 → slotMs i < 46 := by decide
theorem slotMs_inj : ∀ i, i < 7 → ∀ j, j < 7 → slotMs i = slotMs j → i = j := by decide
theorem slotMs_no : ∀ s, s < 12 → ∀ i, i < 7 → slotMs i ≠ s := by decide
def qMs (bx : Nat) (RK : Array Value) (gr : Option Addr) (lr cr : Nat) (a2 : Option Addr) (l2 c2 : Nat) (ns : List Int) (EE : Thing) (m : Nat) (base : Nat) (i : Nat) (W : World) (xv : Value) : Prop :=
  match i with
  | 0 => xv = .pointer (some ⟨bx, 4, none⟩)
  | 1 => xv = .slice gr lr cr
  | 2 => xv = .agg RK
  | 3 => xv = .slice a2 l2 c2
  | 4 => ∃ a c, xv = .slice a ns.length c ∧ Row W xv ns
  | 5 => ∃ g, xv = .slice (some ⟨g, 0, none⟩) m m ∧ Ows EE W base W.heap.size [xv]
  | 6 => ∃ k, xv = .pointer (some ⟨k, 0, none⟩) ∧ base ≤ k ∧ W.heap[k]? = some (.cells #[.slice none 0 0] 109 (0, 0))
  | _ => True
theorem qMs_old (bx : Nat) (RK : Array Value) (gr : Option Addr) (lr cr : Nat) (a2 : Option Addr) (l2 c2 : Nat) (ns : List Int) (EE : Thing) (gE : GoodT EE) (m : Nat) (base : Nat) (i : Nat) (W W' : World) (xv : Value) (h : qMs bx RK gr lr cr a2 l2 c2 ns EE m base i W xv) (qo : Old W W') : qMs bx RK gr lr cr a2 l2 c2 ns EE m base i W' xv := by
  unfold qMs at h ⊢
  split at h
  case h_5 =>
    obtain ⟨ra, rc, e, ow⟩ := h
    exact ⟨ra, rc, e, ow.old qo⟩
  case h_6 =>
    obtain ⟨g, e, ow⟩ := h
    exact ⟨g, e, (Ows.old gE ow qo).low (Nat.le_refl _) qo.size (Nat.le_refl _)⟩
  case h_7 =>
    obtain ⟨k, e, hk, hb⟩ := h
    exact ⟨k, e, hk, (qo.block k (lt_of_some hb)).trans hb⟩
  all_goals first | exact h | trivial
set_option maxRecDepth 100000 in
set_option maxHeartbeats 4000000 in
theorem reg_Ms (w0 : World) (bx : Nat) (N T E : Int) (a3 : Option Addr) (l3 c3 : Nat) (gr : Option Addr) (lr cr : Nat) (b5 : Bool) (a6 : Option Addr) (l6 c6 : Nat) (a2 : Option Addr) (l2 c2 : Nat) (ns : List Int) (EE : Thing) (gE : GoodT EE) (m : Nat)
    (bX : w0.heap[bx]? = some (.cells #[.int .i64 N, .int .i64 T, .int .i64 E, .slice a3 l3 c3, .slice gr lr cr, .bool b5, .slice a6 l6 c6] 73 (0, 0)))
    (KN : ∀ W, Old w0 W → Calls Tryz.prog 84 #[.agg #[.int .i64 N, .int .i64 T, .int .i64 E, .slice a3 l3 c3, .slice gr lr cr, .bool b5, .slice a6 l6 c6], .slice a2 l2 c2] W fun e w' => ∃ v', e = .returned v' ∧ Old W w' ∧ Row w' v' ns)
    (KS : ∀ W, Old w0 W → ∀ u, Row W u ns → Calls Tryz.prog 83 #[.slice gr lr cr, u] W fun e w' => ∃ g, e = .returned (.slice (some ⟨g, 0, none⟩) m m) ∧ Old W w' ∧ Ows EE w' W.heap.size w'.heap.size [.slice (some ⟨g, 0, none⟩) m m])
    (Q : Exit → Act → World → Prop) (a0 : Act) (hsz : a0.tmps.size = 46)
    (ha8 : a0.eval (.tmp 8) = .pointer (some ⟨bx, 0, none⟩)) (ha2 : a0.eval (.tmp 2) = .slice a2 l2 c2)
    (HK : Hid (∀ (us : Nat → Value) W k g, us 6 = .pointer (some ⟨k, 0, none⟩) → Old w0 W → w0.heap.size ≤ k → W.heap[k]? = some (.cells #[.slice none 0 0] 109 (0, 0)) → Ows EE W w0.heap.size W.heap.size [.slice (some ⟨g, 0, none⟩) m m] → Q .normal (putAll a0 ((List.range 7).map fun i => (slotMs i, us i))) (W.setCell ⟨k, 0, none⟩ (.slice (some ⟨g, 0, none⟩) m m)))) :
    Code.wp Tryz.prog ((Tryz.f35.body.bind (regionAtmul 5)).getD .skip) Q a0 w0 := by
  conv => arg 2; whnf
  have un := slotMs_no
  have px : ∀ W, Old w0 W → W.heap[bx]? = some (.cells #[.int .i64 N, .int .i64 T, .int .i64 E, .slice a3 l3 c3, .slice gr lr cr, .bool b5, .slice a6 l6 c6] 73 (0, 0)) := fun W g => (g.block bx (lt_of_some bX)).trans bX
  refine wp_region_tail 7 (by decide) (by kernel_rfl) (by kernel_rfl) (by kernel_rfl) (by kernel_rfl) (by kernel_rfl) slotMs (fun i hi => by rw [hsz]; exact slotMs_lt i hi) (fun i j hi hj => slotMs_inj i hi j hj) (qMs bx #[.int .i64 N, .int .i64 T, .int .i64 E, .slice a3 l3 c3, .slice gr lr cr, .bool b5, .slice a6 l6 c6] gr lr cr a2 l2 c2 ns EE m w0.heap.size) (qMs_old bx _ gr lr cr a2 l2 c2 ns EE gE m w0.heap.size) ?_ ?_
  · refine ⟨?_, ?_, ?_, ?_, ?_, ?_, ?_, trivial⟩
    · intro a W g hF hd
      have e8 := (hF.same 8 (un 8 (by decide))).trans ha8
      obtain ⟨ρ, hρ⟩ : ∃ ρ, a.eval = ρ := ⟨_, rfl⟩
      rw [hρ] at e8
      refine op_val ρ hρ (.pointer (some ⟨bx, 4, none⟩)) ?_ ⟨_, rfl, Old.refl _, rfl⟩
      clear g hF hd hρ HK un ha8 ha2 KN KS px bX
      go_simp
    · intro a W g hF hd
      have h0 : a.eval (.tmp 37) = .pointer (some ⟨bx, 4, none⟩) := hd ⟨0, .data⟩ (by simp) rfl
      have kc : W.cell? ⟨bx, 4, none⟩ = some (.slice gr lr cr) := (show Bk W bx _ _ from px W g).c (i := 4) rfl
      obtain ⟨ρ, hρ⟩ : ∃ ρ, a.eval = ρ := ⟨_, rfl⟩
      rw [hρ] at h0
      refine op_val ρ hρ (.slice gr lr cr) ?_ ⟨_, rfl, Old.refl _, rfl⟩
      clear g hF hd hρ HK un ha8 ha2 KN KS px bX
      go_simp
    · intro a W g hF hd
      refine op_load (k := bx) ((hF.same 8 (un 8 (by decide))).trans ha8) (px W g) Tryz.underlying73 rfl (by kernel_rfl) ?_
      exact ⟨_, rfl, Old.refl _, rfl⟩
    · intro a W g hF hd
      refine op_move ?_
      exact ⟨_, rfl, Old.refl _, (hF.same 2 (un 2 (by decide))).trans ha2⟩
    · intro a W g hF hd
      have h2 : a.eval (.tmp 39) = .agg #[.int .i64 N, .int .i64 T, .int .i64 E, .slice a3 l3 c3, .slice gr lr cr, .bool b5, .slice a6 l6 c6] := hd ⟨2, .data⟩ (by simp) rfl
      have h3 : a.eval (.tmp 40) = .slice a2 l2 c2 := hd ⟨3, .data⟩ (by simp) rfl
      refine op_call_ret (R := fun v w' => Old W w' ∧ ∃ ra rc, v = .slice ra ns.length rc ∧ Row w' v ns) Tryz.call84 (vs := #[.agg #[.int .i64 N, .int .i64 T, .int .i64 E, .slice a3 l3 c3, .slice gr lr cr, .bool b5, .slice a6 l6 c6], .slice a2 l2 c2]) (by simp [h2, h3]) ((KN W g).mono fun e w' h => by
        obtain ⟨v, rfl, q, o⟩ := h
        obtain ⟨ra, rc, e⟩ := o.slice
        exact ⟨_, rfl, q, ra, rc, e, o⟩) ?_
      rintro x w' ⟨g', ra, rc, rfl, o'⟩
      exact ⟨_, rfl, g', ra, rc, rfl, o'⟩
    · intro a W g hF hd
      have h1 : a.eval (.tmp 38) = .slice gr lr cr := hd ⟨1, .data⟩ (by simp) rfl
      obtain ⟨sa, sc, h4, os⟩ : ∃ ra rc, a.eval (.tmp 41) = .slice ra ns.length rc ∧ Row W (a.eval (.tmp 41)) ns := hd ⟨4, .data⟩ (by simp) rfl
      rw [h4] at os
      refine op_call_ret (R := fun v w' => Old W w' ∧ ∃ g, v = .slice (some ⟨g, 0, none⟩) m m ∧ Ows EE w' W.heap.size w'.heap.size [v]) Tryz.call83 (vs := #[.slice gr lr cr, .slice sa ns.length sc]) (by simp [h1, h4]) ((KS W g _ os).mono fun e w' h => by
        obtain ⟨v, rfl, q, o⟩ := h
        exact ⟨_, rfl, q, _, rfl, o⟩) ?_
      rintro x w' ⟨g', gg, rfl, o'⟩
      exact ⟨_, rfl, g', gg, rfl, o'.low g.size (Nat.le_refl _) (Nat.le_refl _)⟩
    · intro a W g hF hd
      refine op_alloc (z := .slice none 0 0) (by kernel_rfl) ?_
      exact ⟨_, rfl, (Old.refl W).alloc _, W.heap.size, rfl, g.size, Bk.new' W _ _ rfl⟩
  · intro a W g hF hq
    obtain ⟨gg, h5, ow⟩ : ∃ g, a.eval (.tmp 42) = .slice (some ⟨g, 0, none⟩) m m ∧ Ows EE W w0.heap.size W.heap.size [a.eval (.tmp 42)] := hq 5 (by decide)
    obtain ⟨k, h6, hk, hb⟩ : ∃ k, a.eval (.tmp 12) = .pointer (some ⟨k, 0, none⟩) ∧ w0.heap.size ≤ k ∧ W.heap[k]? = some (.cells #[.slice none 0 0] 109 (0, 0)) := hq 6 (by decide)
    rw [h5] at ow
    have hp := fram_put hF (fun i j hi hj => slotMs_inj i hi j hj)
    have hk2 := HK.out (fun i => a.eval (.tmp (slotMs i))) W k gg h6 g hk hb ow
    rw [← hp] at hk2
    have hc5 : W.cell? ⟨k, 0, none⟩ = some (.slice none 0 0) := by rw [cell_of_row _ _ _ _ _ _ hb]; rfl
    have hf5 : W.frozen? ⟨k, 0, none⟩ = false := frozen_of_row _ _ _ _ _ hb
    clear ow hq hF HK un g hp hb hk KN KS px bX
    obtain ⟨ρ, hρ⟩ : ∃ ρ, a.eval = ρ := ⟨_, rfl⟩
    rw [hρ] at h5 h6
    refine op_skp (W' := W.setCell ⟨k, 0, none⟩ (.slice (some ⟨gg, 0, none⟩) m m)) ρ hρ ?_ ?_
    · clear hρ hk2
      go_simp
    · exact hk2
end Go.Proofs.YtakleianimcmdaaGreatDoor
/- Proved: the contract of the model's MulPlain. -/
namespace Go.Proofs.YtakleianimcmdaaGreatDoor
open Go.ChangeShapes Go.WideShapes Go.ChangeAt Go.RowKit
open M1
set_option linter.unusedVariables false
set_option linter.unusedSimpArgs false
set_option maxRecDepth 100000 in
set_option maxHeartbeats 4000000 in
theorem spec_MulPlain_no (N T E : Int) (a3 : Option Addr) (l3 c3 : Nat) (a1 : Option Addr) (l1 c1 : Nat) (a2 : Option Addr) (l2 c2 : Nat) (B1 B2 : Bool) (w : World) (hB : (B1 && B2) = false)
    (KG : ∀ W, Old w W → Calls Tryz.prog 59 #[.agg #[.int .i64 N, .int .i64 T, .int .i64 E, .slice a3 l3 c3], .agg #[.slice a1 l1 c1]] W fun e w' => e = .returned (.bool B1) ∧ Old W w')
    (KP : B1 = true → ∀ W, Old w W → Calls Tryz.prog 77 #[.agg #[.int .i64 N, .int .i64 T, .int .i64 E, .slice a3 l3 c3], .slice a2 l2 c2] W fun e w' => e = .returned (.bool B2) ∧ Old W w') :
    Calls Tryz.prog 34 #[.agg #[.int .i64 N, .int .i64 T, .int .i64 E, .slice a3 l3 c3], .agg #[.slice a1 l1 c1], .slice a2 l2 c2] w fun e w' => ∃ r0, e = .returned (.tuple #[.agg r0, .bool false]) ∧ Old w w' ∧ XC [] w' w.heap.size w'.heap.size r0 := by
  have HA : Hid (Old w (((w.alloc (.cells #[.int .i64 N, .int .i64 T, .int .i64 E, .slice a3 l3 c3] 28)).alloc (.cells #[.slice a1 l1 c1] 42)).alloc (.cells #[.slice none 0 0] 42))) := (((Old.refl w).alloc _).alloc _).alloc _
  have BP : Hid (Bk (((w.alloc (.cells #[.int .i64 N, .int .i64 T, .int .i64 E, .slice a3 l3 c3] 28)).alloc (.cells #[.slice a1 l1 c1] 42)).alloc (.cells #[.slice none 0 0] 42)) w.heap.size #[.int .i64 N, .int .i64 T, .int .i64 E, .slice a3 l3 c3] 28) := ((Bk.new' w _ _ rfl).alloc _).alloc _
  have BR : Hid (Bk (((w.alloc (.cells #[.int .i64 N, .int .i64 T, .int .i64 E, .slice a3 l3 c3] 28)).alloc (.cells #[.slice a1 l1 c1] 42)).alloc (.cells #[.slice none 0 0] 42)) (w.heap.size + 1 + 1) #[.slice none 0 0] 42) := Bk.new' _ _ _ (by simp)
  cases B1
  · go_enter Tryz.func34, Tryz.ntmps34
    go_wp2_with fail
    refine (KG _ HA.out).mono ?_
    rintro e w1 ⟨rfl, g1⟩
    have HG1 : Hid (Old w w1) := Old.trans HA.out g1
    have B1 : Hid (Bk w1 (w.heap.size + 1 + 1) #[.slice none 0 0] 42) := BR.out.old g1
    have z0 := B1.out.c (i := 0) rfl
    have f0 : w1.frozen? ⟨w.heap.size + 1 + 1, 0, none⟩ = false := frozen_of_row _ _ _ _ _ B1.out
    clear g1
    go_wp2_with fail
    have q0 := (ci_res B1.out (.slice none 0 0)).c (i := 0) rfl
    refine bodyPost_ret (v := .tuple #[.agg #[.slice none 0 0], .bool false]) (by simp [results, Tryz.results34, go_sem, q0]) rfl ⟨_, rfl, ?_, XC.nil (Nat.le_refl _)⟩
    exact HG1.out.own (p := ⟨w.heap.size + 1 + 1, 0, none⟩) (by simp; omega) _
  · have hB2 : B2 = false := by simpa using hB
    subst hB2
    replace KP := KP rfl
    go_enter Tryz.func34, Tryz.ntmps34
    go_wp2_with fail
    refine (KG _ HA.out).mono ?_
    rintro e w0 ⟨rfl, g0⟩
    have HG0 : Hid (Old w w0) := Old.trans HA.out g0
    have BR0 : Hid (Bk w0 (w.heap.size + 1 + 1) #[.slice none 0 0] 42) := BR.out.old g0
    have BP0 : Hid (Bk w0 w.heap.size #[.int .i64 N, .int .i64 T, .int .i64 E, .slice a3 l3 c3] 28) := BP.out.old g0
    have p0 := BP0.out.c (i := 0) rfl
    have p1 := BP0.out.c (i := 1) rfl
    have p2 := BP0.out.c (i := 2) rfl
    have p3 := BP0.out.c (i := 3) rfl
    clear g0 HA BP BR
    go_wp2_with fail
    refine (KP _ HG0.out).mono ?_
    rintro e w1 ⟨rfl, g1⟩
    have HG1 : Hid (Old w w1) := Old.trans HG0.out g1
    have B1 : Hid (Bk w1 (w.heap.size + 1 + 1) #[.slice none 0 0] 42) := BR0.out.old g1
    have z0 := B1.out.c (i := 0) rfl
    have f0 : w1.frozen? ⟨w.heap.size + 1 + 1, 0, none⟩ = false := frozen_of_row _ _ _ _ _ B1.out
    clear g1
    go_wp2_with fail
    have q0 := (ci_res B1.out (.slice none 0 0)).c (i := 0) rfl
    refine bodyPost_ret (v := .tuple #[.agg #[.slice none 0 0], .bool false]) (by simp [results, Tryz.results34, go_sem, q0]) rfl ⟨_, rfl, ?_, XC.nil (Nat.le_refl _)⟩
    exact HG1.out.own (p := ⟨w.heap.size + 1 + 1, 0, none⟩) (by simp; omega) _
set_option maxRecDepth 100000 in
set_option maxHeartbeats 8000000 in
theorem spec_MulPlain_yes (N T E : Int) (a3 : Option Addr) (l3 c3 : Nat) (b o : Nat) (c1 : Nat) (zsss : List (List (List Int))) (us : Nat → Value) (ss : List Int) (v2 : Value) (yss : List (List Int)) (w : World) (hm : 2 ≤ zsss.length ∧ zsss.length ≤ 3) (hb : b < w.heap.size) (hus : ∀ j, j < zsss.length → ∃ a l c, us j = .slice a l c) (hc : ∀ j, j < zsss.length → w.cell? ⟨b, o + j, none⟩ = some (us j))
    (hv2 : Row w v2 ss) (hl : 1 ≤ ss.length ∧ ss.length ≤ 16) (hs : ∀ i, i < ss.length → 0 ≤ ss.getD i 0 ∧ ss.getD i 0 < T) (hT : 2 ≤ T ∧ T ≤ 65536)
    (KG : ∀ W, Old w W → Calls Tryz.prog 59 #[.agg #[.int .i64 N, .int .i64 T, .int .i64 E, .slice a3 l3 c3], .agg #[.slice (some ⟨b, o, none⟩) zsss.length c1]] W fun e w' => e = .returned (.bool true) ∧ Old W w')
    (KP : ∀ W, Old w W → Calls Tryz.prog 77 #[.agg #[.int .i64 N, .int .i64 T, .int .i64 E, .slice a3 l3 c3], v2] W fun e w' => e = .returned (.bool true) ∧ Old W w')
    (KS : ∀ W, Old w W → ∀ u, Row W u (nearL T ss) → Calls Tryz.prog 82 #[.agg #[.int .i64 N, .int .i64 T, .int .i64 E, .slice a3 l3 c3], u] W fun e w' => ∃ v', e = .returned v' ∧ Old W w' ∧ RowS w' v' yss)
    (KF : ∀ j, j < zsss.length → ∀ W, Old w W → ∀ u, RowS W u yss → Calls Tryz.prog 81 #[.agg #[.int .i64 N, .slice a3 l3 c3], us j, u] W fun e w' => ∃ v', e = .returned v' ∧ Old W w' ∧ OwS (zsss.getD j []) w' W.heap.size w'.heap.size v') :
    Calls Tryz.prog 34 #[.agg #[.int .i64 N, .int .i64 T, .int .i64 E, .slice a3 l3 c3], .agg #[.slice (some ⟨b, o, none⟩) zsss.length c1], v2] w fun e w' => ∃ r0, e = .returned (.tuple #[.agg r0, .bool true]) ∧ Old w w' ∧ XC zsss w' w.heap.size w'.heap.size r0 := by
  obtain ⟨i0, hi, hz0, hz1, hz2⟩ := info_parts Tryz.infoInt
  have HA : Hid (Old w (((w.alloc (.cells #[.int .i64 N, .int .i64 T, .int .i64 E, .slice a3 l3 c3] 28)).alloc (.cells #[.slice (some ⟨b, o, none⟩) zsss.length c1] 42)).alloc (.cells #[.slice none 0 0] 42))) := (((Old.refl w).alloc _).alloc _).alloc _
  have BP : Hid (Bk (((w.alloc (.cells #[.int .i64 N, .int .i64 T, .int .i64 E, .slice a3 l3 c3] 28)).alloc (.cells #[.slice (some ⟨b, o, none⟩) zsss.length c1] 42)).alloc (.cells #[.slice none 0 0] 42)) w.heap.size #[.int .i64 N, .int .i64 T, .int .i64 E, .slice a3 l3 c3] 28) := ((Bk.new' w _ _ rfl).alloc _).alloc _
  have BC : Hid (Bk (((w.alloc (.cells #[.int .i64 N, .int .i64 T, .int .i64 E, .slice a3 l3 c3] 28)).alloc (.cells #[.slice (some ⟨b, o, none⟩) zsss.length c1] 42)).alloc (.cells #[.slice none 0 0] 42)) (w.heap.size + 1) #[.slice (some ⟨b, o, none⟩) zsss.length c1] 42) := (Bk.new' _ _ _ (by simp)).alloc _
  have BR : Hid (Bk (((w.alloc (.cells #[.int .i64 N, .int .i64 T, .int .i64 E, .slice a3 l3 c3] 28)).alloc (.cells #[.slice (some ⟨b, o, none⟩) zsss.length c1] 42)).alloc (.cells #[.slice none 0 0] 42)) (w.heap.size + 1 + 1) #[.slice none 0 0] 42) := Bk.new' _ _ _ (by simp)
  have HUS : Hid (∀ j, j < zsss.length → ∃ a l c, us j = .slice a l c) := hus
  have HC : Hid (∀ j, j < zsss.length → w.cell? ⟨b, o + j, none⟩ = some (us j)) := hc
  have HKF : Hid (∀ j, j < zsss.length → ∀ W, Old w W → ∀ u, RowS W u yss → Calls Tryz.prog 81 #[.agg #[.int .i64 N, .slice a3 l3 c3], us j, u] W fun e w' => ∃ v', e = .returned v' ∧ Old W w' ∧ OwS (zsss.getD j []) w' W.heap.size w'.heap.size v') := KF
  have HKS : Hid (∀ W, Old w W → ∀ u, Row W u (nearL T ss) → Calls Tryz.prog 82 #[.agg #[.int .i64 N, .int .i64 T, .int .i64 E, .slice a3 l3 c3], u] W fun e w' => ∃ v', e = .returned v' ∧ Old W w' ∧ RowS w' v' yss) := KS
  rcases hv2 with ⟨_, _, e, e'⟩ | ⟨b2, o2, cap2, e, hb2, h02, hc2⟩
  · subst e'
    simp at hl
  subst e
  have HC2 : Hid (∀ j, j < ss.length → w.cell? ⟨b2, o2 + j, none⟩ = some (.int .i64 (ss.getD j 0))) := hc2
  have HS : Hid (∀ i, i < ss.length → 0 ≤ ss.getD i 0 ∧ ss.getD i 0 < T) := hs
  have HTT : Hid (∀ i, i < ss.length → (nearL T ss).take (i + 1) = (nearL T ss).take i ++ [nearF T (ss.getD i 0)]) := fun i hi' => by
    rw [take_succI _ _ (by rw [nearL_len]; exact hi'), nearL_get _ _ _ hi']
  have HTL : Hid ((nearL T ss).length = ss.length) := nearL_len T ss
  generalize nearL T ss = ns at *
  clear hus hc KF KS hc2 hs h02
  go_enter Tryz.func34, Tryz.ntmps34
  go_wp2_with fail
  refine (KG _ HA.out).mono ?_
  rintro e w0 ⟨rfl, g0⟩
  have HG0 : Hid (Old w w0) := Old.trans HA.out g0
  have BP0 : Hid (Bk w0 w.heap.size #[.int .i64 N, .int .i64 T, .int .i64 E, .slice a3 l3 c3] 28) := BP.out.old g0
  have BC0 : Hid (Bk w0 (w.heap.size + 1) #[.slice (some ⟨b, o, none⟩) zsss.length c1] 42) := BC.out.old g0
  have BR0 : Hid (Bk w0 (w.heap.size + 1 + 1) #[.slice none 0 0] 42) := BR.out.old g0
  have p0 := BP0.out.c (i := 0) rfl
  have p1 := BP0.out.c (i := 1) rfl
  have p2 := BP0.out.c (i := 2) rfl
  have p3 := BP0.out.c (i := 3) rfl
  clear g0 HA BP BC BR KG
  go_wp2_with fail
  refine (KP _ HG0.out).mono ?_
  rintro e w1 ⟨rfl, g1⟩
  have HG1 : Hid (Old w w1) := Old.trans HG0.out g1
  have BP1 : Hid (Bk w1 w.heap.size #[.int .i64 N, .int .i64 T, .int .i64 E, .slice a3 l3 c3] 28) := BP0.out.old g1
  have BC1 : Hid (Bk w1 (w.heap.size + 1) #[.slice (some ⟨b, o, none⟩) zsss.length c1] 42) := BC0.out.old g1
  have BR1 : Hid (Bk w1 (w.heap.size + 1 + 1) #[.slice none 0 0] 42) := BR0.out.old g1
  have hs1 : w.heap.size + 3 ≤ w1.heap.size := by have := BR1.out.lt; omega
  clear g1 KP p0 p1 p2 p3 BP0 BC0 BR0 HG0
  go_wp2_with fail
  go_loopw [8, 27] (fun x i W => ∃ (j : Nat) (a : Option Addr) (cap : Nat), j ≤ ss.length ∧ i = .int .i64 j ∧ x = .slice a j cap ∧ Hid (Own W w1.heap.size (.slice a j cap) (ns.take j)) ∧ Hid (Old w1 W)) (fun _ i _ => ss.length - (intOf i).toNat)
  case atStart => exact ⟨0, none, 0, by omega, rfl, rfl, (by exact own_nil _ _), Old.refl _⟩
  case round =>
    obtain ⟨j, ra, rc, hj, rfl, rfl, HO2, HG2⟩ := hrel
    have hs2 := HG2.out.size
    by_cases hjl : j < ss.length
    · have d2 : decide ((j : Int) < (ss.length : Int)) = true := by simp; omega
      have hx := HS.out j hjl
      have k3 : wr.cell? ⟨b2, o2 + j, none⟩ = some (.int .i64 (ss.getD j 0)) := (HG2.out.cell (p := ⟨b2, o2 + j, none⟩) (by show b2 < _; omega)).trans ((HG1.out.cell (p := ⟨b2, o2 + j, none⟩) hb2).trans (HC2.out j hjl))
      have y1 := (BP1.out.old HG2.out).c (i := 1) rfl
      have htk : (ns.take j).length = j := by rw [List.length_take]; have := HTL.out; omega
      have HT2 : Hid (ns.take (j + 1) = ns.take j ++ [nearF T (ss.getD j 0)]) := HTT.out j hjl
      generalize ss.getD j 0 = x at *
      have hq : T.tdiv 2 = T / 2 := Int.tdiv_eq_ediv_of_nonneg (by omega)
      have htk1 : (ns.take (j + 1)).length = j + 1 := by rw [List.length_take]; have := HTL.out; omega
      by_cases hx2 : x > T / 2
      · have d3 : decide (x > T / 2) = true := decide_eq_true hx2
        have HT3 : Hid (ns.take (j + 1) = ns.take j ++ [x - T]) := by
          have := HT2.out
          unfold nearF at this
          rw [hq, if_pos hx2] at this
          exact this
        clear HT2
        go_wp2_with (at_builtin; go_loud (refine wpList_append_own _ rfl _ _ 22 rfl w1.heap.size 3 i0 (.int .i64 0) 1 8 Tryz.underlying22 hi hz0 hz1 hz2 rfl (by decide) _ _ _ rfl (by have := HO2.out.alloc (.cells #[.int .i64 (x - T)] 3); unfold Own at this; rw [htk] at this; exact this) ⟨wr.heap.size, 0, none⟩ 1 1 [.int .i64 (x - T)] rfl rfl (one_cell _ _ _) (one_one _) (by unfold maxLen; omega) (by omega) (by simp; omega) ?_; intro v5 w5 o5 g5 x5; have O5 : Hid (Own w5 w1.heap.size v5 (ns.take (j + 1))) := (by have := HT3.out; show Own _ _ _ _; rw [this]; exact Own.snoc (by rw [htk]; exact o5)); have G5 : Hid (Old w1 w5) := Below.grown (HG2.out.alloc (.cells #[.int .i64 (x - T)] 3)) g5 (HG2.out.alloc (.cells #[.int .i64 (x - T)] 3)).size (fun j hj => (HO2.out.lt j hj).1); clear o5 g5 x5))
        obtain ⟨a5, cap5, rfl⟩ := (Own.row O5.out).slice
        rw [htk1] at O5 ⊢
        exact ⟨⟨j + 1, _, _, by omega, by go_num, rfl, O5, G5⟩, by simp [intOf]; omega⟩
      · have d3 : decide (x > T / 2) = false := decide_eq_false hx2
        have HT3 : Hid (ns.take (j + 1) = ns.take j ++ [x]) := by
          have := HT2.out
          unfold nearF at this
          rw [hq, if_neg hx2] at this
          exact this
        clear HT2
        go_wp2_with (at_builtin; go_loud (refine wpList_append_own _ rfl _ _ 22 rfl w1.heap.size 3 i0 (.int .i64 0) 1 8 Tryz.underlying22 hi hz0 hz1 hz2 rfl (by decide) _ _ _ rfl (by have := HO2.out.alloc (.cells #[.int .i64 x] 3); unfold Own at this; rw [htk] at this; exact this) ⟨wr.heap.size, 0, none⟩ 1 1 [.int .i64 x] rfl rfl (one_cell _ _ _) (one_one _) (by unfold maxLen; omega) (by omega) (by simp; omega) ?_; intro v5 w5 o5 g5 x5; have O5 : Hid (Own w5 w1.heap.size v5 (ns.take (j + 1))) := (by have := HT3.out; show Own _ _ _ _; rw [this]; exact Own.snoc (by rw [htk]; exact o5)); have G5 : Hid (Old w1 w5) := Below.grown (HG2.out.alloc (.cells #[.int .i64 x] 3)) g5 (HG2.out.alloc (.cells #[.int .i64 x] 3)).size (fun j hj => (HO2.out.lt j hj).1); clear o5 g5 x5))
        obtain ⟨a5, cap5, rfl⟩ := (Own.row O5.out).slice
        rw [htk1] at O5 ⊢
        exact ⟨⟨j + 1, _, _, by omega, by go_num, rfl, O5, G5⟩, by simp [intOf]; omega⟩
    · have d2 : decide ((j : Int) < (ss.length : Int)) = false := by simp; omega
      obtain rfl : j = ss.length := by omega
      obtain ⟨w2, hw2⟩ : ∃ w2, w2 = wr := ⟨_, rfl⟩
      subst hw2
      rename World => w2
      have HNR : Hid (Row w2 (.slice ra ss.length rc) ns) := by
        have := Own.row HO2.out
        rw [List.take_of_length_le (by have := HTL.out; omega)] at this
        exact this
      have HGw : Hid (Old w w2) := Old.trans HG1.out HG2.out
      have HGA : Hid (Old w2 (w2.alloc (.cells #[.slice none 0 0] 42))) := (Old.refl w2).alloc _
      have BP2 : Hid (Bk w2 w.heap.size #[.int .i64 N, .int .i64 T, .int .i64 E, .slice a3 l3 c3] 28) := BP1.out.old HG2.out
      have BR2 : Hid (Bk w2 (w.heap.size + 1 + 1) #[.slice none 0 0] 42) := BR1.out.old HG2.out
      have BCA : Hid (Bk (w2.alloc (.cells #[.slice none 0 0] 42)) (w.heap.size + 1) #[.slice (some ⟨b, o, none⟩) zsss.length c1] 42) := (BC1.out.old HG2.out).alloc _
      have BOA : Hid (Bk (w2.alloc (.cells #[.slice none 0 0] 42)) w2.heap.size #[.slice none 0 0] 42) := Bk.new' w2 _ _ rfl
      have z1 := BCA.out.c (i := 0) rfl
      have HOA : Hid (Ows (PaK zsss 0) (w2.alloc (.cells #[.slice none 0 0] 42)) (w2.heap.size + 1) (w2.alloc (.cells #[.slice none 0 0] 42)).heap.size [.slice none 0 0]) := Ows.nil (Nat.le_refl _)
      clear HO2 HG2 BP1 BC1 BR1
      go_wp2_with fail
      go_loopw [49] (fun i W => ∃ (k : Nat) (aa : Option Addr) (cap : Nat), k ≤ zsss.length ∧ i = .int .i64 k ∧ Hid (Ows (PaK zsss k) W (w2.heap.size + 1) W.heap.size [.slice aa k cap]) ∧ Hid (Bk W w2.heap.size #[.slice aa k cap] 42) ∧ Hid (Old w2 W)) (fun i _ => zsss.length - (intOf i).toNat)
      case atStart => exact ⟨0, none, 0, by omega, rfl, HOA, BOA, HGA⟩
      case round =>
        obtain ⟨k, aa, cap, hk, rfl, HO, BO, HG⟩ := hrel
        clear HOA BOA HGA BCA z1
        have BP : Hid (Bk wr w.heap.size #[.int .i64 N, .int .i64 T, .int .i64 E, .slice a3 l3 c3] 28) := BP2.out.old HG.out
        have BR : Hid (Bk wr (w.heap.size + 1 + 1) #[.slice none 0 0] 42) := BR2.out.old HG.out
        have HGW : Hid (Old w wr) := Old.trans HGw.out HG.out
        by_cases hlt : k < zsss.length
        · have d1 : decide ((k : Int) < (zsss.length : Int)) = true := decide_eq_true (by omega)
          have c1' := (HGW.out.cell (p := ⟨b, o + k, none⟩) hb).trans (HC.out k hlt)
          obtain ⟨au, lu, cu, eu⟩ := HUS.out k hlt
          have kf := HKF.out k hlt
          rw [eu] at c1' kf
          clear eu
          go_wp2_with fail
          refine reg_Mp wr N T E a3 l3 c3 w.heap.size w2.heap.size aa k cap au lu cu ra ss.length rc yss (zsss.getD k []) (fun W v' => Ows (PaK zsss (k + 1)) W (w2.heap.size + 1) W.heap.size [v'] ∧ Bk W w2.heap.size #[v'] 42 ∧ Old w2 W ∧ ∀ b, b < w2.heap.size → W.heap[b]? = wr.heap[b]?) (by omega) BO.out (fun bb hbb e => ?_) (BO.out.c (i := 0) rfl) BP.out (fun W g => HKS.out W (Old.trans HGW.out g) _ (HNR.out.old (Old.trans HG.out g))) (fun W g u hu => kf W (Old.trans HGW.out g) u hu) (fun W u g ou => parts_app HO.out BO.out.lt (Nat.le_refl _) HG.out BO.out W u g ou) _ _ ?_ ?_ ?_ ?_ ?_ ?_
          · obtain ⟨_, B, hT, hB⟩ := HO.out
            rcases hT with ⟨_, e1, _⟩ | ⟨p, cp, vs, Bs, e1, hc, hbb2⟩
            · simp at e1
              rw [e1.1] at hbb
              cases hbb
            · simp at e1
              rw [e1.1] at hbb
              simp only [Value.ownBlock, Option.some.injEq] at hbb
              have := (hB p ((hbb2 p).2 (.inl rfl))).1
              omega
          iterate 5 (· exact rfl)
          intro us2 W a5 c5 hfin
          obtain ⟨n1, n2, n3, n4⟩ := hfin
          simp only [putAll, Act.put, slotMp, List.range, List.range.loop, List.map_cons, List.map_nil, List.getD_cons_zero, List.getD_cons_succ, List.setIfInBounds_toArray, List.set_cons_succ, List.set_cons_zero]
          have N1 : Hid (Ows (PaK zsss (k + 1)) W (w2.heap.size + 1) W.heap.size [.slice a5 (k + 1) c5]) := n1
          have N2 : Hid (Bk W w2.heap.size #[.slice a5 (k + 1) c5] 42) := n2
          have N3 : Hid (Old w2 W) := n3
          clear n1 n2 n3 n4 HO BO HG BP BR c1' kf HGW
          go_wp2_with fail
          exact ⟨⟨k + 1, a5, c5, by omega, by go_num, N1, N2, N3⟩, by simp [intOf]; omega⟩
        · have d1 : decide ((k : Int) < (zsss.length : Int)) = false := decide_eq_false (by omega)
          obtain rfl : k = zsss.length := by omega
          have z0 := BO.out.c (i := 0) rfl
          have y0 := BR.out.c (i := 0) rfl
          have f0 : wr.frozen? ⟨w.heap.size + 1 + 1, 0, none⟩ = false := frozen_of_row _ _ _ _ _ BR.out
          go_wp2_with fail
          have q0 := (ci_res BR.out (.slice aa zsss.length cap)).c (i := 0) rfl
          refine bodyPost_ret (v := .tuple #[.agg #[.slice aa zsss.length cap], .bool true]) (by simp [results, Tryz.results34, go_sem, q0]) rfl ⟨_, rfl, ?_, aa, cap, rfl, ?_⟩
          · exact HGW.out.own (p := ⟨w.heap.size + 1 + 1, 0, none⟩) (by simp; omega) _
          · have h1 : Ows (TTT zsss) wr (w2.heap.size + 1) wr.heap.size [.slice aa zsss.length cap] := HO.out
            have h2 := h1.putT (k := w.heap.size + 1 + 1) (j := 0) (x := .slice aa zsss.length cap) (.inl (by omega))
            exact h2.low (lo' := w.heap.size) (by omega) (by simp) (Nat.le_refl _)
end Go.Proofs.YtakleianimcmdaaGreatDoor
/- Proved: the drawn region of the model's l5Ahead and that of its l5Back: a row is transformed and appended. -/
namespace Go.Proofs.YtakleianimcmdaaGreatDoor
open Go.ChangeShapes Go.WideShapes Go.ChangeAt Go.RowKit
set_option linter.unusedVariables false
set_option linter.unusedSimpArgs false
theorem op_valW {P : Program} {a : Act} {W W' : World} {K : Act → World → Prop} {Q : Exit → Act → World → Prop} {o : Oper} (ρ : Operand → Value) (hρ : a.eval = ρ) (v : Value) (hr : (execOp ρ o).run P W = .ok (.value v) W') (hK : K (a.put o.dst v) W') : o.wp P a W K Q := by
  unfold Oper.wp
  rw [hρ, hr]
  exact hK
theorem op_append_at {P : Program} {o : Oper} {a : Act} {w : World} {K : Act → World → Prop} {Q : Exit → Act → World → Prop} (s x : Operand) (t : TypeId)
    (ho : o.op = .call { callee := .builtin .append, args := #[s, x], argTypes := #[t, t] })
    (base : Nat) (e : TypeId) (i : TypeInfo) (z : Value) (size bytes : Nat) (ht : P.underlying t = some (.slice e)) (hi : P.info? e = some i) (hz : i.zero = some z)
    (hsize : i.size = size) (hby : i.bytes = bytes) (hzs : z.cells.size = size) (hsz : 0 < size)
    (v : Value) (n : Nat) (xs : List Value) (hs : a.eval s = v) (hown : w.ownsRow base e size v n xs)
    (ad : Addr) (m c : Nat) (news : List Value) (hx : a.eval x = .slice (some ad) m c) (hl : news.length = m * size) (hnews : ∀ j u, news[j]? = some u → w.cell? (ad.add j) = some u) (h1 : ∀ u ∈ news, u.oneCell' = true)
    (h63 : n + m ≤ maxLen) (hbytes : (n + m) * bytes ≤ 140737488355328) (hbase : base ≤ w.heap.size)
    (h : ∀ v' w', w'.ownsRow base e size v' (n + m) (xs ++ news) → w.grownBy w' v.ownBlock → (v' = .slice none 0 0 ↔ v = .slice none 0 0 ∧ m = 0) → (v'.ownBlock = v.ownBlock ∨ v'.ownBlock = some w.heap.size) → K (a.put o.dst v') w') :
    o.wp P a w K Q := by
  obtain ⟨v', w', hr, h2, h3, h4, h5⟩ := run_append_own_at (P := P) w base t o.type e i z size bytes ht hi hz hsize hby hzs hsz v n xs hown ad m c news hl hnews h1 h63 hbytes hbase
  unfold Oper.wp execOp
  simp only [ho, resolve, invoke, builtin, Sem.run_bind, Sem.run_pure, Result.andThen_ok, List.map_toArray, List.map_cons, List.map_nil, hs, hx, hr]
  exact h v' w' h2 h3 h4 h5
theorem own_fit {W : World} {base : Nat} {v : Value} {zs : List Int} (h : Own W base v zs) : ∃ ra rc, v = .slice ra zs.length rc ∧ zs.length ≤ rc := by
  rcases h.2 with ⟨e, hn⟩ | ⟨_, _, _, e, _, _, hn, _⟩
  · exact ⟨none, 0, by rw [e, hn], by omega⟩
  · exact ⟨_, _, e, hn⟩
end Go.Proofs.YtakleianimcmdaaGreatDoor
/- Proved: the drawn regions of the model's l5Mul and MulRows. -/
namespace Go.Proofs.YtakleianimcmdaaGreatDoor
open Go.ChangeShapes Go.WideShapes Go.ChangeAt Go.RowKit
set_option linter.unusedVariables false
set_option linter.unusedSimpArgs false
def slotRgM (i : Nat) : Nat := [18, 19, 20, 21, 22, 23, 24, 25, 26, 27, 28, 29, 30, 31, 32, 33, 7].getD i 0
theorem slotRgM_lt : ∀ i, i < 17 → slotRgM i < 36 := by decide
theorem slotRgM_inj : ∀ i, i < 17 → ∀ j, j < 17 → slotRgM i = slotRgM j → i = j := by decide
theorem slotRgM_no : ∀ s, s < 18 → ∀ i, i < 16 → slotRgM i ≠ s := by decide
def qRgM (sb b1 o1 b2 o2 L cap1 cap2 k : Nat) (aa : Option Addr) (cap : Nat) (p N : Int) (x1 x2 : Option Addr) (n1 y1 n2 y2 : Nat) (zs : List Int) (base : Nat) (i : Nat) (W : World) (xv : Value) : Prop :=
  match i with
  | 0 => xv = .slice aa k cap
  | 1 => xv = .int .i64 p
  | 2 => xv = .pointer (some ⟨sb, 0, none⟩)
  | 3 => xv = .int .i64 N
  | 4 => xv = .agg #[.int .i64 p, .int .i64 N, .int .i64 0]
  | 5 => xv = .slice (some ⟨b1, o1, none⟩) L cap1
  | 6 => xv = .int .i64 k
  | 7 => xv = .pointer (some ⟨b1, o1 + k, none⟩)
  | 8 => xv = .slice x1 n1 y1
  | 9 => xv = .slice (some ⟨b2, o2, none⟩) L cap2
  | 10 => xv = .int .i64 k
  | 11 => xv = .pointer (some ⟨b2, o2 + k, none⟩)
  | 12 => xv = .slice x2 n2 y2
  | 13 => ∃ ra rc, xv = .slice ra zs.length rc ∧ zs.length ≤ rc ∧ Own W base xv zs
  | 14 => ∃ ra rc g, xv = .slice (some ⟨g, 0, none⟩) 1 1 ∧ zs.length ≤ rc ∧ Own W base (.slice ra zs.length rc) zs ∧ W.cell? ⟨g, 0, none⟩ = some (.slice ra zs.length rc) ∧ g < W.heap.size
  | _ => True
theorem qRgM_old (sb b1 o1 b2 o2 L cap1 cap2 k : Nat) (aa : Option Addr) (cap : Nat) (p N : Int) (x1 x2 : Option Addr) (n1 y1 n2 y2 : Nat) (zs : List Int) (base : Nat) (i : Nat) (W W' : World) (xv : Value) (h : qRgM sb b1 o1 b2 o2 L cap1 cap2 k aa cap p N x1 x2 n1 y1 n2 y2 zs base i W xv) (qo : Old W W') : qRgM sb b1 o1 b2 o2 L cap1 cap2 k aa cap p N x1 x2 n1 y1 n2 y2 zs base i W' xv := by
  unfold qRgM at h ⊢
  split at h
  case h_14 =>
    obtain ⟨ra, rc, e, hc, ow⟩ := h
    exact ⟨ra, rc, e, hc, ow.old qo⟩
  case h_15 =>
    obtain ⟨ra, rc, g, e, hc, ow, hcell, hlt⟩ := h
    exact ⟨ra, rc, g, e, hc, ow.old qo, (qo.cell (p := ⟨g, 0, none⟩) hlt).trans hcell, Nat.lt_of_lt_of_le hlt qo.size⟩
  all_goals first | exact h | trivial
set_option maxRecDepth 100000 in
set_option maxHeartbeats 4000000 in
theorem reg_RgM (w0 : World) (sb b1 o1 b2 o2 L cap1 cap2 k : Nat) (aa : Option Addr) (cap : Nat) (p N : Int) (x1 x2 : Option Addr) (n1 y1 n2 y2 : Nat) (zs : List Int) (base : Nat) (hbase : base ≤ w0.heap.size) (FIN : World → Value → Prop)
    (cN : w0.cell? ⟨sb, 0, none⟩ = some (.int .i64 N)) (c1 : w0.cell? ⟨b1, o1 + k, none⟩ = some (.slice x1 n1 y1)) (c2 : w0.cell? ⟨b2, o2 + k, none⟩ = some (.slice x2 n2 y2))
    (hk : k < L) (hk6 : k ≤ 6) (hL : L ≤ 1048576) (hkL : (k : Int) < (L : Int))
    (KF : ∀ W, Old w0 W → Calls Tryz.prog 144 #[.agg #[.int .i64 p, .int .i64 N, .int .i64 0], .slice x1 n1 y1, .slice x2 n2 y2] W fun e w' => ∃ v', e = .returned v' ∧ Old W w' ∧ Own w' W.heap.size v' zs)
    (HEM : ∀ (W : World) (ra : Option Addr) (rc : Nat), Old w0 W → Own W w0.heap.size (.slice ra zs.length rc) zs → zs.length ≤ rc → ∃ vs, W.ownsRow base 22 1 (.slice aa k cap) k vs ∧ (∀ v' w', w'.ownsRow base 22 1 v' (k + 1) (vs ++ [.slice ra zs.length rc]) → W.grownBy w' (Value.slice aa k cap).ownBlock → (v'.ownBlock = (Value.slice aa k cap).ownBlock ∨ v'.ownBlock = some W.heap.size) → FIN w' v'))
    (Q : Exit → Act → World → Prop) (a0 : Act) (hsz : a0.tmps.size = 36)
    (ha1 : a0.eval (.tmp 1) = .slice (some ⟨b1, o1, none⟩) L cap1) (ha2 : a0.eval (.tmp 2) = .slice (some ⟨b2, o2, none⟩) L cap2) (ha3 : a0.eval (.tmp 3) = .pointer (some ⟨sb, 0, none⟩)) (ha7 : a0.eval (.tmp 7) = .slice aa k cap) (ha8 : a0.eval (.tmp 8) = .int .i64 k) (ha9 : a0.eval (.tmp 9) = .int .i64 p)
    (HK : Hid (∀ (us : Nat → Value) W, FIN W (us 16) → Q .normal (putAll a0 ((List.range 17).map fun i => (slotRgM i, us i))) W)) :
    Code.wp Tryz.prog ((Tryz.f81.body.bind (regionAtmul 5)).getD .skip) Q a0 w0 := by
  conv => arg 2; whnf
  obtain ⟨i0, ii, iz0, iz1, iz2⟩ := info_parts Tryz.infoInt
  obtain ⟨j0, ji, jz0, jz1, jz2⟩ := info_parts Tryz.infoInts
  have hsb := block_lt_of_cell cN
  have hb1 := block_lt_of_cell c1
  have hb2 := block_lt_of_cell c2
  have un := slotRgM_no
  refine wp_region_turn 15 rfl rfl rfl (by kernel_rfl) (by kernel_rfl) (by kernel_rfl) (by kernel_rfl) (by kernel_rfl) slotRgM (fun i hi => by rw [hsz]; exact slotRgM_lt i hi) (fun i j hi hj => slotRgM_inj i hi j hj) (qRgM sb b1 o1 b2 o2 L cap1 cap2 k aa cap p N x1 x2 n1 y1 n2 y2 zs w0.heap.size) (qRgM_old sb b1 o1 b2 o2 L cap1 cap2 k aa cap p N x1 x2 n1 y1 n2 y2 zs w0.heap.size) FIN ?_ ?_ ?_ ?_
  · refine ⟨?_, ?_, ?_, ?_, ?_, ?_, ?_, ?_, ?_, ?_, ?_, ?_, ?_, ?_, ?_, trivial⟩
    · intro a W g hF hd
      have e1 := (hF.same 1 (un 1 (by decide))).trans ha1
      have e2 := (hF.same 2 (un 2 (by decide))).trans ha2
      have e3 := (hF.same 3 (un 3 (by decide))).trans ha3
      have e7 := (hF.same 7 (un 7 (by decide))).trans ha7
      have e8 := (hF.same 8 (un 8 (by decide))).trans ha8
      have e9 := (hF.same 9 (un 9 (by decide))).trans ha9
      obtain ⟨ρ, hρ⟩ : ∃ ρ, a.eval = ρ := ⟨_, rfl⟩
      rw [hρ] at  e1 e2 e3 e7 e8 e9
      refine op_val ρ hρ (.slice aa k cap) ?_ ⟨_, rfl, Old.refl _, rfl⟩
      clear g hF hd hρ HK un ha1 ha2 ha3 ha7 ha8 ha9 cN c1 c2 KF HEM
      go_simp
      all_goals (rw [IntKind.wrap_i64]; omega)
    · intro a W g hF hd
      have e1 := (hF.same 1 (un 1 (by decide))).trans ha1
      have e2 := (hF.same 2 (un 2 (by decide))).trans ha2
      have e3 := (hF.same 3 (un 3 (by decide))).trans ha3
      have e7 := (hF.same 7 (un 7 (by decide))).trans ha7
      have e8 := (hF.same 8 (un 8 (by decide))).trans ha8
      have e9 := (hF.same 9 (un 9 (by decide))).trans ha9
      obtain ⟨ρ, hρ⟩ : ∃ ρ, a.eval = ρ := ⟨_, rfl⟩
      rw [hρ] at  e1 e2 e3 e7 e8 e9
      refine op_val ρ hρ (.int .i64 p) ?_ ⟨_, rfl, Old.refl _, rfl⟩
      clear g hF hd hρ HK un ha1 ha2 ha3 ha7 ha8 ha9 cN c1 c2 KF HEM
      go_simp
      all_goals (rw [IntKind.wrap_i64]; omega)
    · intro a W g hF hd
      have e1 := (hF.same 1 (un 1 (by decide))).trans ha1
      have e2 := (hF.same 2 (un 2 (by decide))).trans ha2
      have e3 := (hF.same 3 (un 3 (by decide))).trans ha3
      have e7 := (hF.same 7 (un 7 (by decide))).trans ha7
      have e8 := (hF.same 8 (un 8 (by decide))).trans ha8
      have e9 := (hF.same 9 (un 9 (by decide))).trans ha9
      obtain ⟨ρ, hρ⟩ : ∃ ρ, a.eval = ρ := ⟨_, rfl⟩
      rw [hρ] at  e1 e2 e3 e7 e8 e9
      refine op_val ρ hρ (.pointer (some ⟨sb, 0, none⟩)) ?_ ⟨_, rfl, Old.refl _, rfl⟩
      clear g hF hd hρ HK un ha1 ha2 ha3 ha7 ha8 ha9 cN c1 c2 KF HEM
      go_simp
      all_goals (rw [IntKind.wrap_i64]; omega)
    · intro a W g hF hd
      have e1 := (hF.same 1 (un 1 (by decide))).trans ha1
      have e2 := (hF.same 2 (un 2 (by decide))).trans ha2
      have e3 := (hF.same 3 (un 3 (by decide))).trans ha3
      have e7 := (hF.same 7 (un 7 (by decide))).trans ha7
      have e8 := (hF.same 8 (un 8 (by decide))).trans ha8
      have e9 := (hF.same 9 (un 9 (by decide))).trans ha9
      have h2 := hd ⟨2, .data⟩ (by simp) rfl
      simp only [qRgM, slotRgM, List.getD_cons_zero, List.getD_cons_succ] at h2
      have kcN := (g.cell (p := ⟨sb, 0, none⟩) hsb).trans cN
      obtain ⟨ρ, hρ⟩ : ∃ ρ, a.eval = ρ := ⟨_, rfl⟩
      rw [hρ] at h2 e1 e2 e3 e7 e8 e9
      refine op_val ρ hρ (.int .i64 N) ?_ ⟨_, rfl, Old.refl _, rfl⟩
      clear g hF hd hρ HK un ha1 ha2 ha3 ha7 ha8 ha9 cN c1 c2 KF HEM
      go_simp
      all_goals (rw [IntKind.wrap_i64]; omega)
    · intro a W g hF hd
      have e1 := (hF.same 1 (un 1 (by decide))).trans ha1
      have e2 := (hF.same 2 (un 2 (by decide))).trans ha2
      have e3 := (hF.same 3 (un 3 (by decide))).trans ha3
      have e7 := (hF.same 7 (un 7 (by decide))).trans ha7
      have e8 := (hF.same 8 (un 8 (by decide))).trans ha8
      have e9 := (hF.same 9 (un 9 (by decide))).trans ha9
      have h1 := hd ⟨1, .data⟩ (by simp) rfl
      have h3 := hd ⟨3, .data⟩ (by simp) rfl
      simp only [qRgM, slotRgM, List.getD_cons_zero, List.getD_cons_succ] at h1 h3
      obtain ⟨ρ, hρ⟩ : ∃ ρ, a.eval = ρ := ⟨_, rfl⟩
      rw [hρ] at h1 h3 e1 e2 e3 e7 e8 e9
      refine op_val ρ hρ (.agg #[.int .i64 p, .int .i64 N, .int .i64 0]) ?_ ⟨_, rfl, Old.refl _, rfl⟩
      clear g hF hd hρ HK un ha1 ha2 ha3 ha7 ha8 ha9 cN c1 c2 KF HEM
      go_simp
      all_goals (rw [IntKind.wrap_i64]; omega)
    · intro a W g hF hd
      have e1 := (hF.same 1 (un 1 (by decide))).trans ha1
      have e2 := (hF.same 2 (un 2 (by decide))).trans ha2
      have e3 := (hF.same 3 (un 3 (by decide))).trans ha3
      have e7 := (hF.same 7 (un 7 (by decide))).trans ha7
      have e8 := (hF.same 8 (un 8 (by decide))).trans ha8
      have e9 := (hF.same 9 (un 9 (by decide))).trans ha9
      obtain ⟨ρ, hρ⟩ : ∃ ρ, a.eval = ρ := ⟨_, rfl⟩
      rw [hρ] at  e1 e2 e3 e7 e8 e9
      refine op_val ρ hρ (.slice (some ⟨b1, o1, none⟩) L cap1) ?_ ⟨_, rfl, Old.refl _, rfl⟩
      clear g hF hd hρ HK un ha1 ha2 ha3 ha7 ha8 ha9 cN c1 c2 KF HEM
      go_simp
      all_goals (rw [IntKind.wrap_i64]; omega)
    · intro a W g hF hd
      have e1 := (hF.same 1 (un 1 (by decide))).trans ha1
      have e2 := (hF.same 2 (un 2 (by decide))).trans ha2
      have e3 := (hF.same 3 (un 3 (by decide))).trans ha3
      have e7 := (hF.same 7 (un 7 (by decide))).trans ha7
      have e8 := (hF.same 8 (un 8 (by decide))).trans ha8
      have e9 := (hF.same 9 (un 9 (by decide))).trans ha9
      obtain ⟨ρ, hρ⟩ : ∃ ρ, a.eval = ρ := ⟨_, rfl⟩
      rw [hρ] at  e1 e2 e3 e7 e8 e9
      refine op_val ρ hρ (.int .i64 k) ?_ ⟨_, rfl, Old.refl _, rfl⟩
      clear g hF hd hρ HK un ha1 ha2 ha3 ha7 ha8 ha9 cN c1 c2 KF HEM
      go_simp
      all_goals (rw [IntKind.wrap_i64]; omega)
    · intro a W g hF hd
      have e1 := (hF.same 1 (un 1 (by decide))).trans ha1
      have e2 := (hF.same 2 (un 2 (by decide))).trans ha2
      have e3 := (hF.same 3 (un 3 (by decide))).trans ha3
      have e7 := (hF.same 7 (un 7 (by decide))).trans ha7
      have e8 := (hF.same 8 (un 8 (by decide))).trans ha8
      have e9 := (hF.same 9 (un 9 (by decide))).trans ha9
      have h5 := hd ⟨5, .data⟩ (by simp) rfl
      have h6 := hd ⟨6, .data⟩ (by simp) rfl
      simp only [qRgM, slotRgM, List.getD_cons_zero, List.getD_cons_succ] at h5 h6
      obtain ⟨ρ, hρ⟩ : ∃ ρ, a.eval = ρ := ⟨_, rfl⟩
      rw [hρ] at h5 h6 e1 e2 e3 e7 e8 e9
      refine op_val ρ hρ (.pointer (some ⟨b1, o1 + k, none⟩)) ?_ ⟨_, rfl, Old.refl _, rfl⟩
      clear g hF hd hρ HK un ha1 ha2 ha3 ha7 ha8 ha9 cN c1 c2 KF HEM
      go_simp
      all_goals (rw [IntKind.wrap_i64]; omega)
    · intro a W g hF hd
      have e1 := (hF.same 1 (un 1 (by decide))).trans ha1
      have e2 := (hF.same 2 (un 2 (by decide))).trans ha2
      have e3 := (hF.same 3 (un 3 (by decide))).trans ha3
      have e7 := (hF.same 7 (un 7 (by decide))).trans ha7
      have e8 := (hF.same 8 (un 8 (by decide))).trans ha8
      have e9 := (hF.same 9 (un 9 (by decide))).trans ha9
      have h7 := hd ⟨7, .data⟩ (by simp) rfl
      simp only [qRgM, slotRgM, List.getD_cons_zero, List.getD_cons_succ] at h7
      have kc1 := (g.cell (p := ⟨b1, o1 + k, none⟩) hb1).trans c1
      obtain ⟨ρ, hρ⟩ : ∃ ρ, a.eval = ρ := ⟨_, rfl⟩
      rw [hρ] at h7 e1 e2 e3 e7 e8 e9
      refine op_val ρ hρ (.slice x1 n1 y1) ?_ ⟨_, rfl, Old.refl _, rfl⟩
      clear g hF hd hρ HK un ha1 ha2 ha3 ha7 ha8 ha9 cN c1 c2 KF HEM
      go_simp
      all_goals (rw [IntKind.wrap_i64]; omega)
    · intro a W g hF hd
      have e1 := (hF.same 1 (un 1 (by decide))).trans ha1
      have e2 := (hF.same 2 (un 2 (by decide))).trans ha2
      have e3 := (hF.same 3 (un 3 (by decide))).trans ha3
      have e7 := (hF.same 7 (un 7 (by decide))).trans ha7
      have e8 := (hF.same 8 (un 8 (by decide))).trans ha8
      have e9 := (hF.same 9 (un 9 (by decide))).trans ha9
      obtain ⟨ρ, hρ⟩ : ∃ ρ, a.eval = ρ := ⟨_, rfl⟩
      rw [hρ] at  e1 e2 e3 e7 e8 e9
      refine op_val ρ hρ (.slice (some ⟨b2, o2, none⟩) L cap2) ?_ ⟨_, rfl, Old.refl _, rfl⟩
      clear g hF hd hρ HK un ha1 ha2 ha3 ha7 ha8 ha9 cN c1 c2 KF HEM
      go_simp
      all_goals (rw [IntKind.wrap_i64]; omega)
    · intro a W g hF hd
      have e1 := (hF.same 1 (un 1 (by decide))).trans ha1
      have e2 := (hF.same 2 (un 2 (by decide))).trans ha2
      have e3 := (hF.same 3 (un 3 (by decide))).trans ha3
      have e7 := (hF.same 7 (un 7 (by decide))).trans ha7
      have e8 := (hF.same 8 (un 8 (by decide))).trans ha8
      have e9 := (hF.same 9 (un 9 (by decide))).trans ha9
      obtain ⟨ρ, hρ⟩ : ∃ ρ, a.eval = ρ := ⟨_, rfl⟩
      rw [hρ] at  e1 e2 e3 e7 e8 e9
      refine op_val ρ hρ (.int .i64 k) ?_ ⟨_, rfl, Old.refl _, rfl⟩
      clear g hF hd hρ HK un ha1 ha2 ha3 ha7 ha8 ha9 cN c1 c2 KF HEM
      go_simp
      all_goals (rw [IntKind.wrap_i64]; omega)
    · intro a W g hF hd
      have e1 := (hF.same 1 (un 1 (by decide))).trans ha1
      have e2 := (hF.same 2 (un 2 (by decide))).trans ha2
      have e3 := (hF.same 3 (un 3 (by decide))).trans ha3
      have e7 := (hF.same 7 (un 7 (by decide))).trans ha7
      have e8 := (hF.same 8 (un 8 (by decide))).trans ha8
      have e9 := (hF.same 9 (un 9 (by decide))).trans ha9
      have h9 := hd ⟨9, .data⟩ (by simp) rfl
      have h10 := hd ⟨10, .data⟩ (by simp) rfl
      simp only [qRgM, slotRgM, List.getD_cons_zero, List.getD_cons_succ] at h9 h10
      obtain ⟨ρ, hρ⟩ : ∃ ρ, a.eval = ρ := ⟨_, rfl⟩
      rw [hρ] at h9 h10 e1 e2 e3 e7 e8 e9
      refine op_val ρ hρ (.pointer (some ⟨b2, o2 + k, none⟩)) ?_ ⟨_, rfl, Old.refl _, rfl⟩
      clear g hF hd hρ HK un ha1 ha2 ha3 ha7 ha8 ha9 cN c1 c2 KF HEM
      go_simp
      all_goals (rw [IntKind.wrap_i64]; omega)
    · intro a W g hF hd
      have e1 := (hF.same 1 (un 1 (by decide))).trans ha1
      have e2 := (hF.same 2 (un 2 (by decide))).trans ha2
      have e3 := (hF.same 3 (un 3 (by decide))).trans ha3
      have e7 := (hF.same 7 (un 7 (by decide))).trans ha7
      have e8 := (hF.same 8 (un 8 (by decide))).trans ha8
      have e9 := (hF.same 9 (un 9 (by decide))).trans ha9
      have h11 := hd ⟨11, .data⟩ (by simp) rfl
      simp only [qRgM, slotRgM, List.getD_cons_zero, List.getD_cons_succ] at h11
      have kc2 := (g.cell (p := ⟨b2, o2 + k, none⟩) hb2).trans c2
      obtain ⟨ρ, hρ⟩ : ∃ ρ, a.eval = ρ := ⟨_, rfl⟩
      rw [hρ] at h11 e1 e2 e3 e7 e8 e9
      refine op_val ρ hρ (.slice x2 n2 y2) ?_ ⟨_, rfl, Old.refl _, rfl⟩
      clear g hF hd hρ HK un ha1 ha2 ha3 ha7 ha8 ha9 cN c1 c2 KF HEM
      go_simp
      all_goals (rw [IntKind.wrap_i64]; omega)
    · intro a W g hF hd
      have h4 : a.eval (.tmp 22) = .agg #[.int .i64 p, .int .i64 N, .int .i64 0] := hd ⟨4, .data⟩ (by simp) rfl
      have h8 : a.eval (.tmp 26) = .slice x1 n1 y1 := hd ⟨8, .data⟩ (by simp) rfl
      have h12 : a.eval (.tmp 30) = .slice x2 n2 y2 := hd ⟨12, .data⟩ (by simp) rfl
      refine op_call_ret Tryz.call144 (vs := #[.agg #[.int .i64 p, .int .i64 N, .int .i64 0], .slice x1 n1 y1, .slice x2 n2 y2]) (by simp [h4, h8, h12]) (KF W g) ?_
      rintro x w' ⟨g', o'⟩
      obtain ⟨ra, rc, e, hc⟩ := own_fit o'
      subst e
      exact ⟨_, rfl, g', ra, rc, rfl, hc, o'.low g.size⟩
    · intro a W g hF hd
      obtain ⟨ra, rc, h7, hc, ow⟩ : ∃ ra rc, a.eval (.tmp 31) = .slice ra zs.length rc ∧ zs.length ≤ rc ∧ Own W w0.heap.size (a.eval (.tmp 31)) zs := hd ⟨13, .data⟩ (by simp) rfl
      rw [h7] at ow
      obtain ⟨ρ, hρ⟩ : ∃ ρ, a.eval = ρ := ⟨_, rfl⟩
      rw [hρ] at h7
      refine op_valW (W' := W.alloc (.cells #[.slice ra zs.length rc] 22)) ρ hρ (.slice (some ⟨W.heap.size, 0, none⟩) 1 1) ?_ ⟨_, rfl, (Old.refl W).alloc _, ra, rc, W.heap.size, rfl, hc, ow.alloc _, cell_at _ _ _ _ _ rfl, by simp⟩
      clear g hF hd hρ HK un ha1 ha2 ha3 ha7 ha8 ha9 cN c1 c2 KF HEM ow hc
      go_simp
  · intro a W g hF hq
    have h0 : a.eval (.tmp 18) = .slice aa k cap := hq 0 (by decide)
    obtain ⟨ra, rc, gg, h8, hc, ow, hcell, hlt⟩ : ∃ ra rc gg, a.eval (.tmp 32) = .slice (some ⟨gg, 0, none⟩) 1 1 ∧ zs.length ≤ rc ∧ Own W w0.heap.size (.slice ra zs.length rc) zs ∧ W.cell? ⟨gg, 0, none⟩ = some (.slice ra zs.length rc) ∧ gg < W.heap.size := hq 14 (by decide)
    obtain ⟨vs, ov, hem⟩ := HEM W ra rc g ow hc
    refine op_append_at _ _ 93 rfl base 22 j0 (.slice none 0 0) 1 24 Tryz.underlying93 ji jz0 jz1 jz2 rfl (by decide) _ k vs h0 ov ⟨gg, 0, none⟩ 1 1 [.slice ra zs.length rc] h8 rfl ?_ (one_sl _ _ _) (by unfold maxLen; omega) (by omega) (Nat.le_trans hbase g.size) ?_
    · intro j u hj
      match j, hj with
      | 0, hj =>
        have : Value.slice ra zs.length rc = u := by simpa using hj
        subst this
        exact hcell
      | j + 1, hj => simp at hj
    · intro v' w' o5 g5 x5 l5
      exact ⟨v', rfl, hem v' w' o5 g5 l5⟩
  · intro a W v hv
    exact op_assign (by rw [show a.eval (.tmp 33) = v from hv]; exact ⟨rfl, rfl⟩)
  · intro a W hF hq
    have hp := fram_put hF (fun i j hi hj => slotRgM_inj i hi j hj)
    have hk := HK.out (fun i => a.eval (.tmp (slotRgM i))) W hq
    rw [← hp] at hk
    exact hk
end Go.Proofs.YtakleianimcmdaaGreatDoor
/- Proved: the model's product of rows that are not ahead (l5Mul). -/
namespace Go.Proofs.YtakleianimcmdaaGreatDoor
open Go.ChangeShapes Go.WideShapes Go.ChangeAt Go.RowKit
open M1
set_option linter.unusedVariables false
set_option linter.unusedSimpArgs false
set_option maxRecDepth 100000 in
set_option maxHeartbeats 8000000 in
theorem spec_l5Mul (N : Int) (ps : List Int) (xss yss zss : List (List Int)) (v u1 u2 : Value) (w : World) (hv : Row w v ps) (h1 : RowS w u1 xss) (h2 : RowS w u2 yss) (hps : 1 ≤ ps.length ∧ ps.length ≤ 6) (hx : xss.length = ps.length) (hy : yss.length = ps.length) (hzl : zss.length = ps.length)
    (KF : ∀ k, k < ps.length → ∀ W u t, Row W u (xss.getD k []) → Row W t (yss.getD k []) → Calls Tryz.prog 144 #[.agg #[.int .i64 (ps.getD k 0), .int .i64 N, .int .i64 0], u, t] W fun e w' => ∃ v', e = .returned v' ∧ Old W w' ∧ Own w' W.heap.size v' (zss.getD k [])) :
    Calls Tryz.prog 81 #[.agg #[.int .i64 N, v], u1, u2] w fun e w' => ∃ v', e = .returned v' ∧ Old w w' ∧ OwS zss w' w.heap.size w'.heap.size v' := by
  have HKF : Hid (∀ k, k < ps.length → ∀ W u t, Row W u (xss.getD k []) → Row W t (yss.getD k []) → Calls Tryz.prog 144 #[.agg #[.int .i64 (ps.getD k 0), .int .i64 N, .int .i64 0], u, t] W fun e w' => ∃ v', e = .returned v' ∧ Old W w' ∧ Own w' W.heap.size v' (zss.getD k [])) := KF
  clear KF
  obtain ⟨a0, cap0, ev⟩ := hv.slice
  obtain ⟨a1, cap1, e1⟩ := h1.slice
  obtain ⟨a2, cap2, e2⟩ := h2.slice
  rw [hx] at e1
  rw [hy] at e2
  subst ev e1 e2
  rcases hv with ⟨a, cap, e, e'⟩ | ⟨b, o, cap, e, hb, h0, hc⟩
  · subst e'
    simp at hps
  rcases h1 with ⟨a, cap, e, e'⟩ | ⟨b1, o1, cap, us1, e_1, hb1, h01, hc1⟩
  · subst e'
    simp at hx
    omega
  rcases h2 with ⟨a, cap, e, e'⟩ | ⟨b2, o2, cap, us2, e_2, hb2, h02, hc2⟩
  · subst e'
    simp at hy
    omega
  simp only [Value.slice.injEq, true_and] at e e_1 e_2
  obtain ⟨rfl, rfl⟩ := e
  obtain ⟨rfl, hq1, rfl⟩ := e_1
  obtain ⟨rfl, hq2, rfl⟩ := e_2
  have HC : Hid (∀ j, j < ps.length → w.cell? ⟨b, o + j, none⟩ = some (.int .i64 (ps.getD j 0))) := hc
  have HC1 : Hid (∀ j, j < ps.length → w.cell? ⟨b1, o1 + j, none⟩ = some (us1 j) ∧ Row w (us1 j) (xss.getD j [])) := fun j hj => hc1 j (by omega)
  have HC2 : Hid (∀ j, j < ps.length → w.cell? ⟨b2, o2 + j, none⟩ = some (us2 j) ∧ Row w (us2 j) (yss.getD j [])) := fun j hj => hc2 j (by omega)
  have HZ : Hid (∀ k, k < ps.length → zss.take (k + 1) = zss.take k ++ [zss.getD k []]) := fun k hk => take_succL _ _ (by omega)
  have HZL : Hid (zss.length = ps.length) := hzl
  obtain ⟨wB, hwB⟩ : ∃ wB, wB = w.alloc (.cells #[.int .i64 N, .slice (some ⟨b, o, none⟩) ps.length cap0] 97) := ⟨_, rfl⟩
  have HAO : Hid (Old w wB) := by rw [hwB]; exact (Old.refl w).alloc _
  have hq0 : wB.cell? ⟨w.heap.size, 0, none⟩ = some (.int .i64 N) := by rw [hwB]; exact cell_at _ _ _ _ _ rfl
  have hq1' : wB.cell? ⟨w.heap.size, 1, none⟩ = some (.slice (some ⟨b, o, none⟩) ps.length cap0) := by rw [hwB]; exact cell_at _ _ _ _ _ rfl
  have hqs : w.heap.size < wB.heap.size := by rw [hwB]; simp
  clear hc hc1 hc2 hzl hq1 hq2 h0 h01 h02 hx hy
  go_enter Tryz.func81, Tryz.ntmps81
  go_wp2_with fail
  rw [← hwB]
  clear hwB
  go_loopw [7, 13] (fun x i W => ∃ (k : Nat) (a : Option Addr) (cap : Nat), k ≤ ps.length ∧ i = .int .i64 k ∧ x = .slice a k cap ∧ Hid (OwS (zss.take k) W wB.heap.size W.heap.size (.slice a k cap)) ∧ Hid (Old wB W)) (fun _ i _ => ps.length - (intOf i).toNat)
  case atStart => exact ⟨0, none, 0, by omega, rfl, rfl, ⟨Nat.le_refl _, Or.inl ⟨rfl, by simp⟩⟩, Old.refl _⟩
  case round =>
    obtain ⟨k, a, cap, hk, rfl, rfl, HO, HG⟩ := hrel
    have hsr := HG.out.size
    by_cases hlt : k < ps.length
    · have d1 : decide ((k : Int) < (ps.length : Int)) = true := by simp; omega
      have hkL : (k : Int) < (ps.length : Int) := by omega
      have HGW : Hid (Old w wr) := Old.trans HAO.out HG.out
      have c0 : wr.cell? ⟨b, o + k, none⟩ = some (.int .i64 (ps.getD k 0)) := (HGW.out.cell (p := ⟨b, o + k, none⟩) hb).trans (HC.out k hlt)
      obtain ⟨p1, p2⟩ := HC1.out k hlt
      obtain ⟨xa, ya, f1⟩ := p2.slice
      rw [f1] at p1 p2
      obtain ⟨p3, p4⟩ := HC2.out k hlt
      obtain ⟨xb, yb, f2⟩ := p4.slice
      rw [f2] at p3 p4
      have c1 : wr.cell? ⟨b1, o1 + k, none⟩ = some (.slice xa (xss.getD k []).length ya) := (HGW.out.cell (p := ⟨b1, o1 + k, none⟩) hb1).trans p1
      have c2 : wr.cell? ⟨b2, o2 + k, none⟩ = some (.slice xb (yss.getD k []).length yb) := (HGW.out.cell (p := ⟨b2, o2 + k, none⟩) hb2).trans p3
      have R1 : Hid (Row wr (.slice xa (xss.getD k []).length ya) (xss.getD k [])) := p2.old HGW.out
      have R2 : Hid (Row wr (.slice xb (yss.getD k []).length yb) (yss.getD k [])) := p4.old HGW.out
      have n0 := (HG.out.cell (p := ⟨w.heap.size, 0, none⟩) hqs).trans hq0
      have HZK : Hid (zss.take (k + 1) = zss.take k ++ [zss.getD k []]) := HZ.out k hlt
      have KFk := HKF.out k hlt
      clear p1 p2 p3 p4 f1 f2
      generalize zss.getD k [] = zs at *
      generalize xss.getD k [] = xs at *
      generalize yss.getD k [] = ys at *
      generalize ps.getD k 0 = p at *
      have HEMB : Hid (∀ (W : World) (ra : Option Addr) (rc : Nat), Old wr W → Own W wr.heap.size (.slice ra zs.length rc) zs → zs.length ≤ rc → ∃ vs, W.ownsRow wB.heap.size 22 1 (.slice a k cap) k vs ∧ (∀ v' w', w'.ownsRow wB.heap.size 22 1 v' (k + 1) (vs ++ [.slice ra zs.length rc]) → W.grownBy w' (Value.slice a k cap).ownBlock → (v'.ownBlock = (Value.slice a k cap).ownBlock ∨ v'.ownBlock = some W.heap.size) → OwS (zss.take (k + 1)) w' wB.heap.size w'.heap.size v' ∧ Below (wB.heap.size) wr w')) := fun W ra rc g o hc => by
        have hl : (zss.take k).length = k := by rw [List.length_take]; have := HZL.out; omega
        have := OwS.app HO.out hsr g o hc
        rw [hl] at this
        rw [HZK.out]
        obtain ⟨vs, t1, t2⟩ := this
        refine ⟨vs, t1, fun v' w' q1 q2 q3 => ⟨t2 v' w' q1 q2 q3, ?_⟩⟩
        refine Below.grown (g.mono hsr) q2 (Nat.le_trans hsr g.size) (fun p hp => ?_)
        obtain ⟨hh, ⟨e, e2⟩ | ⟨p', cap', vs, e, hcap, hl, hhi, _⟩⟩ := HO.out
        · rw [e] at hp
          cases hp
        · rw [e] at hp
          simp only [Value.ownBlock, Option.some.injEq] at hp
          omega
      go_wp2_with fail
      refine reg_RgM wr w.heap.size b1 o1 b2 o2 ps.length cap1 cap2 k a cap p N xa xb xs.length ya ys.length yb zs wB.heap.size hsr (fun W v => OwS (zss.take (k + 1)) W wB.heap.size W.heap.size v ∧ Old wB W) n0 c1 c2 hlt (by omega) (by omega) hkL (fun W g => KFk W _ _ (R1.out.old g) (R2.out.old g)) (fun W ra rc g o hc => by
        obtain ⟨vs, t1, t2⟩ := HEMB.out W ra rc g o hc
        exact ⟨vs, t1, fun v' w' q1 q2 q3 => ⟨(t2 v' w' q1 q2 q3).1, Below.trans HG.out (t2 v' w' q1 q2 q3).2⟩⟩) _ _ ?_ ?_ ?_ ?_ ?_ ?_ ?_ ?_
      iterate 7 (· exact rfl)
      intro us W' hfin
      obtain ⟨O5, G5⟩ := hfin
      have HO5 : Hid (OwS (zss.take (k + 1)) W' wB.heap.size W'.heap.size (us 16)) := O5
      have HG5 : Hid (Old wB W') := G5
      clear O5 G5 c0 c1 c2 n0 KFk HEMB
      simp only [putAll, Act.put, slotRgM, List.range, List.range.loop, List.map_cons, List.map_nil, List.getD_cons_zero, List.getD_cons_succ, List.setIfInBounds_toArray, List.set_cons_succ, List.set_cons_zero]
      have hl1 : (zss.take (k + 1)).length = k + 1 := by rw [List.length_take]; have := HZL.out; omega
      obtain ⟨a5, cap5, e5⟩ := HO5.out.slice
      rw [hl1] at e5
      rw [e5] at HO5
      generalize us 16 = u10 at *
      subst e5
      go_wp2_with fail
      exact ⟨⟨k + 1, _, _, by omega, by go_num, rfl, HO5, HG5⟩, by simp [intOf]; omega⟩
    · have d1 : decide ((k : Int) < (ps.length : Int)) = false := by simp; omega
      obtain rfl : k = ps.length := by omega
      have HF : Hid (OwS zss wr wB.heap.size wr.heap.size (.slice a ps.length cap)) := by
        have := HO.out
        rw [List.take_of_length_le (by have := HZL.out; omega)] at this
        exact this
      go_wp2_with fail
      go_ret
      exact ⟨_, rfl, Old.trans HAO.out HG.out, HF.out.low HAO.out.size⟩
end Go.Proofs.YtakleianimcmdaaGreatDoor
