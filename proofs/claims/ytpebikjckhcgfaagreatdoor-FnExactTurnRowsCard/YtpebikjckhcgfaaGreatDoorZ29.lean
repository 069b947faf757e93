/- Proved: several texts in one: what each proves is said ahead of it. -/
import Derived.Test.YtpebikjckhcgfaaGreatDoorZ28
import Derived.Test.YtpebikjckhcgfaaGreatDoorZ23
import Derived.Test.YtpebikjckhcgfaaGreatDoorZ26
import Derived.Test.YtpebikjckhcgfaaGreatDoorZ27
import Derived.Test.YtpebikjckhcgfaaGreatDoorZ30
import Derived.Test.YtpebikjckhcgfaaGreatDoorZ24
import Derived.Test.YtpebikjckhcgfaaGreatDoorZ11
/- Proved: the program's eachPair where both are good, whatever the join. -/
namespace Go.Proofs.YtpebikjckhcgfaaGreatDoor
open Go.ChangeShapes Go.WideShapes Go.ChangeAt Go.RowKit
set_option linter.unusedVariables false
set_option linter.unusedSimpArgs false
def slotEp (i : Nat) : Nat := [40, 41, 42, 43, 44, 45, 46, 47].getD i 0
theorem slotEp_lt : ∀ i, i < 8 → slotEp i < 48 := by decide
theorem slotEp_inj : ∀ i, i < 8 → ∀ j, j < 8 → slotEp i = slotEp j → i = j := by decide
theorem slotEp_no : ∀ s, s < 30 → ∀ i, i < 8 → slotEp i ≠ s := by decide
def qEp (k : Nat) (n : Bool) (v1 v2 fv : Value) (E : Thing) (L : Nat) (zss : List (List Int)) (base : Nat) (i : Nat) (W : World) (xv : Value) : Prop :=
  match i with
  | 0 => xv = .pointer (some ⟨k, 0, none⟩)
  | 1 => xv = .bool n
  | 2 => xv = v1
  | 3 => xv = v2
  | 4 => xv = fv
  | 5 => ∃ a c, xv = .slice a L c ∧ Ows E W base W.heap.size [xv]
  | 6 => ∃ a c, xv = .slice a zss.length c ∧ OwS zss W base W.heap.size xv
  | 7 => ∃ a c, xv = .agg #[.bool n, .slice a zss.length c] ∧ OwS zss W base W.heap.size (.slice a zss.length c)
  | _ => True
theorem growE {xss : List (List Int)} {W W' : World} {lo : Nat} {v : Value} (h : OwS xss W lo W.heap.size v) (g : Old W W') : OwS xss W' lo W'.heap.size v :=
  ((far_OwS xss).old h g (Nat.le_refl _)).high g.size (Nat.le_refl _)
theorem qEp_old (k : Nat) (n : Bool) (v1 v2 fv : Value) (E : Thing) (gE : GoodT E) (L : Nat) (zss : List (List Int)) (base : Nat) (i : Nat) (W W' : World) (xv : Value) (h : qEp k n v1 v2 fv E L zss base i W xv) (qo : Old W W') : qEp k n v1 v2 fv E L zss base i W' xv := by
  unfold qEp at h ⊢
  split at h
  case h_6 =>
    obtain ⟨a, c, e, o⟩ := h
    exact ⟨a, c, e, (Ows.old gE o qo).low (Nat.le_refl _) qo.size (Nat.le_refl _)⟩
  case h_7 =>
    obtain ⟨a, c, e, o⟩ := h
    exact ⟨a, c, e, growE o qo⟩
  case h_8 =>
    obtain ⟨a, c, e, o⟩ := h
    exact ⟨a, c, e, growE o qo⟩
  all_goals first | exact h | trivial
end Go.Proofs.YtpebikjckhcgfaaGreatDoor
/- Proved: the program's eachPair with plus, where both are good. -/
namespace Go.Proofs.YtpebikjckhcgfaaGreatDoor
open Go.ChangeShapes Go.WideShapes Go.ChangeAt Go.RowKit
set_option linter.unusedVariables false
set_option linter.unusedSimpArgs false
end Go.Proofs.YtpebikjckhcgfaaGreatDoor
/- Proved: the program's AddRows. -/
namespace Go.Proofs.YtpebikjckhcgfaaGreatDoor
open Go.ChangeShapes Go.WideShapes Go.ChangeAt Go.RowKit
open M1
set_option linter.unusedVariables false
set_option linter.unusedSimpArgs false
theorem two_of {N : Int} {ps : List Int} {a b : Bool} {xss yss : List (List Int)} : twoB N ps a b xss yss = true ↔ (grB N ps xss = true ∧ grB N ps yss = true ∧ a = b) := by
  unfold twoB grB
  cases spB N ps <;> cases rwB N ps xss <;> cases rwB N ps yss <;> cases a <;> cases b <;> simp
theorem OwS.ats {xss : List (List Int)} {W : World} {lo hi : Nat} {v : Value} (ps : List Int) (h : OwS xss W lo hi v) : ∃ us cs, 0 < xss.length → RowsAt W v ps xss us cs := by
  rcases Nat.eq_zero_or_pos xss.length with h0 | h0
  · exact ⟨fun _ => none, fun _ => 0, fun h => by omega⟩
  · obtain ⟨us, cs, h⟩ := h.at ps h0
    exact ⟨us, cs, fun _ => h⟩
end Go.Proofs.YtpebikjckhcgfaaGreatDoor
/- Proved: the model's AheadRows and BackRows, out of their rows. -/
namespace Go.Proofs.YtpebikjckhcgfaaGreatDoor
open Go.ChangeShapes Go.WideShapes Go.ChangeAt Go.RowKit
set_option linter.unusedVariables false
set_option linter.unusedSimpArgs false
end Go.Proofs.YtpebikjckhcgfaaGreatDoor
/- Proved: the program's AheadRows and BackRows, out of eachRow. -/
namespace Go.Proofs.YtpebikjckhcgfaaGreatDoor
open Go.ChangeShapes Go.WideShapes Go.ChangeAt Go.RowKit
set_option linter.unusedVariables false
set_option linter.unusedSimpArgs false
end Go.Proofs.YtpebikjckhcgfaaGreatDoor
/- Proved: the drawn region of the model's TurnRows: rows are brought back and turned, and laid in a box. -/
namespace Go.Proofs.YtpebikjckhcgfaaGreatDoor
open Go.ChangeShapes Go.WideShapes Go.ChangeAt Go.RowKit
set_option linter.unusedVariables false
set_option linter.unusedSimpArgs false
theorem own_setT {W : World} {lo g : Nat} {v : Value} {xs : List Int} {cs : Array Value} {fr : Nat × Nat} (h : Own W lo v xs) (hg : W.heap[g]? = some (.cells cs 30 fr)) (c : Array Value) : Own (W.setRow g c) lo v xs := by
  refine ⟨h.1, ?_⟩
  rcases h.2 with hn | ⟨p, cap, cur, rfl, hb, hgg, rest⟩
  · exact .inl hn
  · refine .inr ⟨p, cap, cur, rfl, hb, ?_, rest⟩
    rw [heap_setRow_other _ _ _ _ (fun e => by rw [e, hg] at hgg; simp at hgg)]
    exact hgg
theorem OwS.setT {xss : List (List Int)} {W : World} {lo hi g : Nat} {v : Value} {cs : Array Value} {fr : Nat × Nat} (h : OwS xss W lo hi v) (hg : W.heap[g]? = some (.cells cs 30 fr)) (c : Array Value) : OwS xss (W.setRow g c) lo hi v := by
  obtain ⟨hh, h | ⟨p, cap, vs, e, hcap, hlo, hhi, ho, hvl, hj, hd⟩⟩ := h
  · exact ⟨by rw [size_setRow]; exact hh, Or.inl h⟩
  · refine ⟨by rw [size_setRow]; exact hh, Or.inr ⟨p, cap, vs, e, hcap, hlo, hhi, ⟨ho.1, ?_⟩, hvl, fun j hjl => ?_, hd⟩⟩
    · rcases ho.2 with hn | ⟨p', cap', cur, e', hb', hgg, rest⟩
      · exact .inl hn
      · refine .inr ⟨p', cap', cur, e', hb', ?_, rest⟩
        rw [heap_setRow_other _ _ _ _ (fun e => by rw [e, hg] at hgg; simp at hgg)]
        exact hgg
    · obtain ⟨a, c', e1, hc, o, hb⟩ := hj j hjl
      exact ⟨a, c', e1, hc, ⟨own_setT o.1 hg c, by rw [size_setRow]; exact o.2.1, o.2.2⟩, hb⟩
theorem OwS.grow {xss : List (List Int)} {W W' : World} {lo : Nat} {v : Value} (h : OwS xss W lo W.heap.size v) (g : Old W W') : OwS xss W' lo W'.heap.size v :=
  ((far_OwS xss).old h g (Nat.le_refl _)).high g.size (Nat.le_refl _)
def slotTr (i : Nat) : Nat := [21, 22, 23, 24, 25, 26, 27, 8].getD i 0
theorem slotTr_lt : ∀ i, i < 8 → slotTr i < 35 := by decide
theorem slotTr_inj : ∀ i, i < 8 → ∀ j, j < 8 → slotTr i = slotTr j → i = j := by decide
theorem slotTr_no : ∀ s, s < 8 → ∀ i, i < 8 → slotTr i ≠ s := by decide
def qTr (A B : Array Value) (t : Int) (yss zss : List (List Int)) (base : Nat) (i : Nat) (W : World) (x : Value) : Prop :=
  match i with
  | 0 => x = .agg A
  | 1 => x = .agg A
  | 2 => x = .agg B
  | 3 => RowS W x yss
  | 4 => x = .int .i64 t
  | 5 => ∃ a5 c5, x = .slice a5 zss.length c5 ∧ OwS zss W base W.heap.size (.slice a5 zss.length c5)
  | 6 => ∃ a5 c5, x = .agg #[.bool false, .slice a5 zss.length c5] ∧ OwS zss W base W.heap.size (.slice a5 zss.length c5)
  | 7 => ∃ g, x = .pointer (some ⟨g, 0, none⟩) ∧ base ≤ g ∧ W.heap[g]? = some (.cells #[.bool false, .slice none 0 0] 30 (0, 0))
  | _ => True
theorem qTr_old (A B : Array Value) (t : Int) (yss zss : List (List Int)) (base : Nat) (i : Nat) (W W' : World) (x : Value) (h : qTr A B t yss zss base i W x) (q : Old W W') : qTr A B t yss zss base i W' x := by
  unfold qTr at h ⊢
  split at h
  case h_4 => exact h.old q
  case h_6 =>
    obtain ⟨a5, c5, e, o⟩ := h
    exact ⟨a5, c5, e, o.grow q⟩
  case h_7 =>
    obtain ⟨a5, c5, e, o⟩ := h
    exact ⟨a5, c5, e, o.grow q⟩
  case h_8 =>
    obtain ⟨g, e, hb, hg⟩ := h
    exact ⟨g, e, hb, (q.block g (lt_of_some hg)).trans hg⟩
  all_goals first | exact h | trivial
set_option maxRecDepth 100000 in
set_option maxHeartbeats 8000000 in
theorem reg_tr3 (w0 : World) (sb rb : Nat) (A B : Array Value) (t : Int) (yss zss : List (List Int)) (bA : w0.heap[sb]? = some (.cells A 33 (0, 0))) (bB : w0.heap[rb]? = some (.cells B 30 (0, 0))) (hA : A.size = 2) (hB : B.size = 2)
    (KB : ∀ W, Old w0 W → Calls Tryz.prog 20 #[.agg A, .agg B] W fun e w' => ∃ v', e = .returned v' ∧ Old W w' ∧ OwS yss w' W.heap.size w'.heap.size v')
    (KT : ∀ W x, Old w0 W → RowS W x yss → Calls Tryz.prog 19 #[.agg A, x, .int .i64 t] W fun e w' => ∃ v', e = .returned v' ∧ Old W w' ∧ OwS zss w' W.heap.size w'.heap.size v')
    (Q : Exit → Act → World → Prop) (a0 : Act) (hsz : a0.tmps.size = 35)
    (ha2 : a0.eval (.tmp 2) = .int .i64 t) (ha3 : a0.eval (.tmp 3) = .pointer (some ⟨sb, 0, none⟩)) (ha4 : a0.eval (.tmp 4) = .pointer (some ⟨rb, 0, none⟩))
    (HK : Hid (∀ (us : Nat → Value) W g a5 c5, Old w0 W → w0.heap.size ≤ g → us 7 = .pointer (some ⟨g, 0, none⟩) → W.heap[g]? = some (.cells #[.bool false, .slice a5 zss.length c5] 30 (0, 0)) → OwS zss W w0.heap.size W.heap.size (.slice a5 zss.length c5) → Q .normal (putAll a0 ((List.range 8).map fun i => (slotTr i, us i))) W)) :
    Code.wp Tryz.prog ((Tryz.f6.body.bind (regionAtmul 3)).getD .skip) Q a0 w0 := by
  conv => arg 2; whnf
  have un := slotTr_no
  have spc : ∀ W, Old w0 W → W.heap[sb]? = some (.cells A 33 (0, 0)) := fun W g => (g.block sb (lt_of_some bA)).trans bA
  have rws : ∀ W, Old w0 W → W.heap[rb]? = some (.cells B 30 (0, 0)) := fun W g => (g.block rb (lt_of_some bB)).trans bB
  have iA : (Tryz.prog.info? 33).map (·.size) = some A.size := by rw [hA]; kernel_rfl
  have iB : (Tryz.prog.info? 30).map (·.size) = some B.size := by rw [hB]; kernel_rfl
  refine wp_region_end 8 rfl rfl (by kernel_rfl) (by kernel_rfl) (by kernel_rfl) (by kernel_rfl) slotTr (fun i hi => by rw [hsz]; exact slotTr_lt i hi) (fun i j hi hj => slotTr_inj i hi j hj) (qTr A B t yss zss w0.heap.size) (qTr_old A B t yss zss w0.heap.size) ?_ ?_
  · refine ⟨?_, ?_, ?_, ?_, ?_, ?_, ?_, ?_, trivial⟩
    · intro a W g hF hd
      refine op_load (k := sb) ((hF.same 3 (un 3 (by decide))).trans ha3) (spc W g) Tryz.underlying33 rfl iA ?_
      exact ⟨_, rfl, Old.refl _, rfl⟩
    · intro a W g hF hd
      refine op_load (k := sb) ((hF.same 3 (un 3 (by decide))).trans ha3) (spc W g) Tryz.underlying33 rfl iA ?_
      exact ⟨_, rfl, Old.refl _, rfl⟩
    · intro a W g hF hd
      refine op_load (k := rb) ((hF.same 4 (un 4 (by decide))).trans ha4) (rws W g) Tryz.underlying30 rfl iB ?_
      exact ⟨_, rfl, Old.refl _, rfl⟩
    · intro a W g hF hd
      have h1 : a.eval (.tmp 22) = .agg A := hd ⟨1, .data⟩ (by simp) rfl
      have h2 : a.eval (.tmp 23) = .agg B := hd ⟨2, .data⟩ (by simp) rfl
      refine op_call_ret Tryz.call20 (vs := #[.agg A, .agg B]) (by simp [h1, h2]) (KB W g) ?_
      rintro x w' ⟨g', o'⟩
      exact ⟨_, rfl, g', o'.rowS⟩
    · intro a W g hF hd
      refine op_move ?_
      exact ⟨_, rfl, Old.refl _, (hF.same 2 (un 2 (by decide))).trans ha2⟩
    · intro a W g hF hd
      have h0 : a.eval (.tmp 21) = .agg A := hd ⟨0, .data⟩ (by simp) rfl
      have h3 : RowS W (a.eval (.tmp 24)) yss := hd ⟨3, .data⟩ (by simp) rfl
      have h4 : a.eval (.tmp 25) = .int .i64 t := hd ⟨4, .data⟩ (by simp) rfl
      refine op_call_ret Tryz.call19 (vs := #[.agg A, a.eval (.tmp 24), .int .i64 t]) (by simp [h0, h4]) (KT W _ g h3) ?_
      rintro x w' ⟨g', o'⟩
      obtain ⟨a5, c5, e⟩ := o'.slice
      subst e
      exact ⟨_, rfl, g', a5, c5, rfl, o'.low g.size⟩
    · intro a W g hF hd
      obtain ⟨a5, c5, h5, o5⟩ : ∃ a5 c5, a.eval (.tmp 26) = .slice a5 zss.length c5 ∧ OwS zss W w0.heap.size W.heap.size (.slice a5 zss.length c5) := hd ⟨5, .data⟩ (by simp) rfl
      obtain ⟨ρ, hρ⟩ : ∃ ρ, a.eval = ρ := ⟨_, rfl⟩
      rw [hρ] at h5
      refine op_val ρ hρ (.agg #[.bool false, .slice a5 zss.length c5]) ?_ ⟨_, rfl, Old.refl _, a5, c5, rfl, o5⟩
      clear g hF hd hρ ha2 ha3 ha4 HK un KB KT bA bB spc rws o5
      go_simp
    · intro a W g hF hd
      refine op_alloc (z := .agg #[.bool false, .slice none 0 0]) (by kernel_rfl) ?_
      exact ⟨_, rfl, (Old.refl W).alloc _, W.heap.size, rfl, g.size, heap_alloc_new W _⟩
  · intro a W g hF hq
    obtain ⟨a5, c5, h6, o6⟩ : ∃ a5 c5, a.eval (.tmp 27) = .agg #[.bool false, .slice a5 zss.length c5] ∧ OwS zss W w0.heap.size W.heap.size (.slice a5 zss.length c5) := hq 6 (by decide)
    obtain ⟨k, h7, hk, hz⟩ : ∃ k, a.eval (.tmp 8) = .pointer (some ⟨k, 0, none⟩) ∧ w0.heap.size ≤ k ∧ W.heap[k]? = some (.cells #[.bool false, .slice none 0 0] 30 (0, 0)) := hq 7 (by decide)
    have hp := fram_put hF (fun i j hi hj => slotTr_inj i hi j hj)
    have hk2 := HK.out (fun i => a.eval (.tmp (slotTr i))) (W.setRow k #[.bool false, .slice a5 zss.length c5]) k a5 c5 (old_setRow g hk _) hk h7 (heap_setRow_same hz) (by rw [size_setRow]; exact o6.setT hz _)
    rw [← hp] at hk2
    exact op_store (k := k) h7 h6 hz (by kernel_rfl) rfl (by simp [Value.oneCell']) hk2
end Go.Proofs.YtpebikjckhcgfaaGreatDoor
/- Proved: the model's TurnRows, out of its parts. -/
namespace Go.Proofs.YtpebikjckhcgfaaGreatDoor
open Go.ChangeShapes Go.WideShapes Go.ChangeAt Go.RowKit
set_option linter.unusedVariables false
set_option linter.unusedSimpArgs false
set_option maxRecDepth 100000 in
set_option maxHeartbeats 8000000 in
theorem spec_TurnRows_no1 (N t : Int) (ps : List Int) (a : Bool) (xss : List (List Int)) (v u1 : Value) (w : World) (ht : -9223372036854775808 ≤ t ∧ t ≤ 9223372036854775807) (hv : Row w v ps) (hf : Fit v) (h1 : RowS w u1 xss) (hlp : ps.length ≤ 1048576) (hx : ∀ x ∈ ps, -9223372036854775808 ≤ x ∧ x ≤ 9223372036854775807) (hl1 : xss.length ≤ 1048576) (hr1 : ∀ r ∈ xss, r.length ≤ 1048576) (hg : grB N ps xss = false) : Calls Tryz.prog 6 #[.agg #[.int .i64 N, v], .agg #[.bool a, u1], .int .i64 t] w (Rs w false [] false) := by
  have c1 := fun W (h : Old w W) => spec_goodRows N ps a xss v u1 W (hv.old h) hf (h1.old h) hlp hx hl1 hr1
  rw [hg] at c1
  obtain ⟨a0, cap0, ev⟩ := hv.slice
  obtain ⟨a1, cap1, e1⟩ := h1.slice
  subst ev e1
  have HA : Hid (Old w (((w.alloc (.cells #[.int .i64 N, .slice a0 ps.length cap0] 33)).alloc (.cells #[.bool a, .slice a1 xss.length cap1] 30)).alloc (.cells #[.bool false, .slice none 0 0] 30))) := (((Old.refl w).alloc _).alloc _).alloc _
  have HS : Hid (StW (((w.alloc (.cells #[.int .i64 N, .slice a0 ps.length cap0] 33)).alloc (.cells #[.bool a, .slice a1 xss.length cap1] 30)).alloc (.cells #[.bool false, .slice none 0 0] 30)) (w.heap.size + 1 + 1) (.bool false) (.slice none 0 0) 30) := by
    have := StW.new ((w.alloc (.cells #[.int .i64 N, .slice a0 ps.length cap0] 33)).alloc (.cells #[.bool a, .slice a1 xss.length cap1] 30)) (.bool false) (.slice none 0 0) 30
    simp at this
    exact this
  have HBX : Hid (∀ W', Old (((w.alloc (.cells #[.int .i64 N, .slice a0 ps.length cap0] 33)).alloc (.cells #[.bool a, .slice a1 xss.length cap1] 30)).alloc (.cells #[.bool false, .slice none 0 0] 30)) W' → StW W' w.heap.size (.int .i64 N) (.slice a0 ps.length cap0) 33 ∧ StW W' (w.heap.size + 1) (.bool a) (.slice a1 xss.length cap1) 30) := fun W' g => by
    have g1 := Old.trans ((Old.refl _).alloc _) g
    have g0 := Old.trans ((Old.refl _).alloc _) g1
    refine ⟨(StW.new w (.int .i64 N) (.slice a0 ps.length cap0) 33).old g0, ?_⟩
    have h := (StW.new (w.alloc (.cells #[.int .i64 N, .slice a0 ps.length cap0] 33)) (.bool a) (.slice a1 xss.length cap1) 30).old g1
    simp at h
    exact h
  clear hv h1 hf hx hr1 hg
  go_enter Tryz.func6, Tryz.ntmps6
  go_wp2_with fail
  refine (c1 _ HA.out).mono ?_
  rintro e w1 ⟨rfl, g1⟩
  have HG1 : Hid (Old w w1) := Old.trans HA.out g1
  have HGA : Hid (Old (((w.alloc (.cells #[.int .i64 N, .slice a0 ps.length cap0] 33)).alloc (.cells #[.bool a, .slice a1 xss.length cap1] 30)).alloc (.cells #[.bool false, .slice none 0 0] 30)) w1) := g1
  have S1 : Hid (StW w1 (w.heap.size + 1 + 1) (.bool false) (.slice none 0 0) 30) := HS.out.old g1
  have hs : w.heap.size + 1 + 1 < w1.heap.size := S1.out.lt
  clear g1
  have q0 := S1.out.c0
  have q1 := S1.out.c1
  have f0 := S1.out.f0
  have f1 := S1.out.f1
  go_wp2_with fail
  refine bodyPost_ret (ret_rb (x := .bool false) (y := .slice none 0 0) (z := .bool false) Tryz.results6 _ _ rfl rfl (st_put2 S1.out _ _)) rfl ⟨_, rfl, ?_, XR.nil _ _ _ _ (Nat.le_refl _)⟩
  exact (HG1.out.own (p := ⟨w.heap.size + 1 + 1, 0, none⟩) (by simp; omega) _).own (p := ⟨w.heap.size + 1 + 1, 1, none⟩) (by simp; omega) _
set_option maxRecDepth 100000 in
set_option maxHeartbeats 8000000 in
theorem spec_TurnRows_no2 (N t : Int) (ps : List Int) (a : Bool) (xss : List (List Int)) (v u1 : Value) (w : World) (ht : -9223372036854775808 ≤ t ∧ t ≤ 9223372036854775807) (hv : Row w v ps) (hf : Fit v) (h1 : RowS w u1 xss) (hlp : ps.length ≤ 1048576) (hx : ∀ x ∈ ps, -9223372036854775808 ≤ x ∧ x ≤ 9223372036854775807) (hl1 : xss.length ≤ 1048576) (hr1 : ∀ r ∈ xss, r.length ≤ 1048576) (hg : grB N ps xss = true) (hN : 2 ≤ N ∧ N ≤ 16) (ho : turnB N t = false) : Calls Tryz.prog 6 #[.agg #[.int .i64 N, v], .agg #[.bool a, u1], .int .i64 t] w (Rs w false [] false) := by
  have c1 := fun W (h : Old w W) => spec_goodRows N ps a xss v u1 W (hv.old h) hf (h1.old h) hlp hx hl1 hr1
  rw [hg] at c1
  have c2 := fun W => spec_odd N t W ht hN
  rw [ho] at c2
  obtain ⟨a0, cap0, ev⟩ := hv.slice
  obtain ⟨a1, cap1, e1⟩ := h1.slice
  subst ev e1
  have HA : Hid (Old w (((w.alloc (.cells #[.int .i64 N, .slice a0 ps.length cap0] 33)).alloc (.cells #[.bool a, .slice a1 xss.length cap1] 30)).alloc (.cells #[.bool false, .slice none 0 0] 30))) := (((Old.refl w).alloc _).alloc _).alloc _
  have HS : Hid (StW (((w.alloc (.cells #[.int .i64 N, .slice a0 ps.length cap0] 33)).alloc (.cells #[.bool a, .slice a1 xss.length cap1] 30)).alloc (.cells #[.bool false, .slice none 0 0] 30)) (w.heap.size + 1 + 1) (.bool false) (.slice none 0 0) 30) := by
    have := StW.new ((w.alloc (.cells #[.int .i64 N, .slice a0 ps.length cap0] 33)).alloc (.cells #[.bool a, .slice a1 xss.length cap1] 30)) (.bool false) (.slice none 0 0) 30
    simp at this
    exact this
  have HBX : Hid (∀ W', Old (((w.alloc (.cells #[.int .i64 N, .slice a0 ps.length cap0] 33)).alloc (.cells #[.bool a, .slice a1 xss.length cap1] 30)).alloc (.cells #[.bool false, .slice none 0 0] 30)) W' → StW W' w.heap.size (.int .i64 N) (.slice a0 ps.length cap0) 33 ∧ StW W' (w.heap.size + 1) (.bool a) (.slice a1 xss.length cap1) 30) := fun W' g => by
    have g1 := Old.trans ((Old.refl _).alloc _) g
    have g0 := Old.trans ((Old.refl _).alloc _) g1
    refine ⟨(StW.new w (.int .i64 N) (.slice a0 ps.length cap0) 33).old g0, ?_⟩
    have h := (StW.new (w.alloc (.cells #[.int .i64 N, .slice a0 ps.length cap0] 33)) (.bool a) (.slice a1 xss.length cap1) 30).old g1
    simp at h
    exact h
  clear hv h1 hf hx hr1 hg
  go_enter Tryz.func6, Tryz.ntmps6
  go_wp2_with fail
  refine (c1 _ HA.out).mono ?_
  rintro e w1 ⟨rfl, g1⟩
  have HG1 : Hid (Old w w1) := Old.trans HA.out g1
  have HGA : Hid (Old (((w.alloc (.cells #[.int .i64 N, .slice a0 ps.length cap0] 33)).alloc (.cells #[.bool a, .slice a1 xss.length cap1] 30)).alloc (.cells #[.bool false, .slice none 0 0] 30)) w1) := g1
  have S1 : Hid (StW w1 (w.heap.size + 1 + 1) (.bool false) (.slice none 0 0) 30) := HS.out.old g1
  have hs : w.heap.size + 1 + 1 < w1.heap.size := S1.out.lt
  have x0 := (HBX.out w1 g1).1.c0
  clear g1
  go_wp2_with fail
  refine (c2 _).mono ?_
  rintro e w1' ⟨rfl, hw'⟩
  rw [hw']
  clear x0 hw' w1'
  have q0 := S1.out.c0
  have q1 := S1.out.c1
  have f0 := S1.out.f0
  have f1 := S1.out.f1
  go_wp2_with fail
  refine bodyPost_ret (ret_rb (x := .bool false) (y := .slice none 0 0) (z := .bool false) Tryz.results6 _ _ rfl rfl (st_put2 S1.out _ _)) rfl ⟨_, rfl, ?_, XR.nil _ _ _ _ (Nat.le_refl _)⟩
  exact (HG1.out.own (p := ⟨w.heap.size + 1 + 1, 0, none⟩) (by simp; omega) _).own (p := ⟨w.heap.size + 1 + 1, 1, none⟩) (by simp; omega) _
set_option maxRecDepth 100000 in
set_option maxHeartbeats 8000000 in
theorem spec_TurnRows_back (N t : Int) (ps : List Int) (xss : List (List Int)) (v u1 : Value) (w : World) (ht : -9223372036854775808 ≤ t ∧ t ≤ 9223372036854775807) (hv : Row w v ps) (hf : Fit v) (h1 : RowS w u1 xss) (hlp : ps.length ≤ 1048576) (hx : ∀ x ∈ ps, -9223372036854775808 ≤ x ∧ x ≤ 9223372036854775807) (hl1 : xss.length ≤ 1048576) (hr1 : ∀ r ∈ xss, r.length ≤ 1048576) (hg : grB N ps xss = true) (hN : 2 ≤ N ∧ N ≤ 16) (ho : turnB N t = true) (yss zss : List (List Int))
    (KB : ∀ W, Old w W → Calls Tryz.prog 20 #[.agg #[.int .i64 N, v], .agg #[.bool false, u1]] W fun e w' => ∃ v', e = .returned v' ∧ Old W w' ∧ OwS yss w' W.heap.size w'.heap.size v')
    (KT : ∀ W x, Old w W → RowS W x yss → Calls Tryz.prog 19 #[.agg #[.int .i64 N, v], x, .int .i64 t] W fun e w' => ∃ v', e = .returned v' ∧ Old W w' ∧ OwS zss w' W.heap.size w'.heap.size v') : Calls Tryz.prog 6 #[.agg #[.int .i64 N, v], .agg #[.bool false, u1], .int .i64 t] w (Rs w false zss true) := by
  have c1 := fun W (h : Old w W) => spec_goodRows N ps false xss v u1 W (hv.old h) hf (h1.old h) hlp hx hl1 hr1
  rw [hg] at c1
  have c2 := fun W => spec_odd N t W ht hN
  rw [ho] at c2
  obtain ⟨a0, cap0, ev⟩ := hv.slice
  obtain ⟨a1, cap1, e1⟩ := h1.slice
  subst ev e1
  have HA : Hid (Old w (((w.alloc (.cells #[.int .i64 N, .slice a0 ps.length cap0] 33)).alloc (.cells #[.bool false, .slice a1 xss.length cap1] 30)).alloc (.cells #[.bool false, .slice none 0 0] 30))) := (((Old.refl w).alloc _).alloc _).alloc _
  have HS : Hid (StW (((w.alloc (.cells #[.int .i64 N, .slice a0 ps.length cap0] 33)).alloc (.cells #[.bool false, .slice a1 xss.length cap1] 30)).alloc (.cells #[.bool false, .slice none 0 0] 30)) (w.heap.size + 1 + 1) (.bool false) (.slice none 0 0) 30) := by
    have := StW.new ((w.alloc (.cells #[.int .i64 N, .slice a0 ps.length cap0] 33)).alloc (.cells #[.bool false, .slice a1 xss.length cap1] 30)) (.bool false) (.slice none 0 0) 30
    simp at this
    exact this
  have HBX : Hid (∀ W', Old (((w.alloc (.cells #[.int .i64 N, .slice a0 ps.length cap0] 33)).alloc (.cells #[.bool false, .slice a1 xss.length cap1] 30)).alloc (.cells #[.bool false, .slice none 0 0] 30)) W' → StW W' w.heap.size (.int .i64 N) (.slice a0 ps.length cap0) 33 ∧ StW W' (w.heap.size + 1) (.bool false) (.slice a1 xss.length cap1) 30) := fun W' g => by
    have g1 := Old.trans ((Old.refl _).alloc _) g
    have g0 := Old.trans ((Old.refl _).alloc _) g1
    refine ⟨(StW.new w (.int .i64 N) (.slice a0 ps.length cap0) 33).old g0, ?_⟩
    have h := (StW.new (w.alloc (.cells #[.int .i64 N, .slice a0 ps.length cap0] 33)) (.bool false) (.slice a1 xss.length cap1) 30).old g1
    simp at h
    exact h
  clear hv h1 hf hx hr1 hg
  go_enter Tryz.func6, Tryz.ntmps6
  go_wp2_with fail
  refine (c1 _ HA.out).mono ?_
  rintro e w1 ⟨rfl, g1⟩
  have HG1 : Hid (Old w w1) := Old.trans HA.out g1
  have HGA : Hid (Old (((w.alloc (.cells #[.int .i64 N, .slice a0 ps.length cap0] 33)).alloc (.cells #[.bool false, .slice a1 xss.length cap1] 30)).alloc (.cells #[.bool false, .slice none 0 0] 30)) w1) := g1
  have S1 : Hid (StW w1 (w.heap.size + 1 + 1) (.bool false) (.slice none 0 0) 30) := HS.out.old g1
  have hs : w.heap.size + 1 + 1 < w1.heap.size := S1.out.lt
  have x0 := (HBX.out w1 g1).1.c0
  clear g1
  go_wp2_with fail
  refine (c2 _).mono ?_
  rintro e w1' ⟨rfl, hw'⟩
  rw [hw']
  clear x0 hw' w1'
  have bA := (HBX.out w1 HGA.out).1
  have bB := (HBX.out w1 HGA.out).2
  go_wp2_with fail
  refine reg_tr3 w1 w.heap.size (w.heap.size + 1) _ _ t yss zss bA bB rfl rfl (fun W g => KB W (Old.trans HG1.out g)) (fun W x g h => KT W x (Old.trans HG1.out g) h) _ _ ?_ ?_ ?_ ?_ ?_
  iterate 4 (· exact rfl)
  intro us W g a5 c5 gw hgl e7 hgs ow
  simp only [putAll, Act.put, slotTr, List.range, List.range.loop, List.map_cons, List.map_nil, List.getD_cons_zero, List.getD_cons_succ, List.setIfInBounds_toArray, List.set_cons_succ, List.set_cons_zero]
  rw [e7]
  have HGW : Hid (Old w1 W) := gw
  have OW : Hid (OwS zss W w1.heap.size W.heap.size (.slice a5 zss.length c5)) := ow
  have SF : Hid (StW W (w.heap.size + 1 + 1) (.bool false) (.slice none 0 0) 30) := S1.out.old HGW.out
  have q0 := SF.out.c0
  have q1 := SF.out.c1
  have f0 := SF.out.f0
  have f1 := SF.out.f1
  have y2 := (HBX.out W (Old.trans HGA.out HGW.out)).2.c0
  have SG : Hid (StW W g (.bool false) (.slice a5 zss.length c5) 30) := hgs
  have m0 := SG.out.c0
  have m1 := SG.out.c1
  clear gw ow hgs bA bB
  go_wp2_with fail
  refine bodyPost_ret (ret_rb Tryz.results6 _ _ rfl rfl (st_put2 SF.out _ _)) rfl ⟨_, rfl, ?_, a5, c5, rfl, ?_⟩
  · exact ((Old.trans HG1.out HGW.out).own (p := ⟨w.heap.size + 1 + 1, 0, none⟩) (by simp; omega) _).own (p := ⟨w.heap.size + 1 + 1, 1, none⟩) (by simp; omega) _
  · have h2 := (OW.out.put (k := w.heap.size + 1 + 1) (j := 0) (x := .bool false) (by omega)).put (k := w.heap.size + 1 + 1) (j := 1) (x := .slice a5 zss.length c5) (by omega)
    have h3 := h2.low (lo' := w.heap.size) (by omega)
    exact h3.high (by simp) (Nat.le_refl _)
set_option maxRecDepth 100000 in
set_option maxHeartbeats 8000000 in
theorem spec_TurnRows_ahead (N t : Int) (ps : List Int) (xss : List (List Int)) (v u1 : Value) (w : World) (ht : -9223372036854775808 ≤ t ∧ t ≤ 9223372036854775807) (hv : Row w v ps) (hf : Fit v) (h1 : RowS w u1 xss) (hlp : ps.length ≤ 1048576) (hx : ∀ x ∈ ps, -9223372036854775808 ≤ x ∧ x ≤ 9223372036854775807) (hl1 : xss.length ≤ 1048576) (hr1 : ∀ r ∈ xss, r.length ≤ 1048576) (hg : grB N ps xss = true) (hN : 2 ≤ N ∧ N ≤ 16) (ho : turnB N t = true) (yss zss : List (List Int))
    (KB : ∀ W, Old w W → Calls Tryz.prog 20 #[.agg #[.int .i64 N, v], .agg #[.bool true, u1]] W fun e w' => ∃ v', e = .returned v' ∧ Old W w' ∧ OwS yss w' W.heap.size w'.heap.size v')
    (KT : ∀ W x, Old w W → RowS W x yss → Calls Tryz.prog 19 #[.agg #[.int .i64 N, v], x, .int .i64 t] W fun e w' => ∃ v', e = .returned v' ∧ Old W w' ∧ OwS zss w' W.heap.size w'.heap.size v') (qss : List (List Int))
    (KA : ∀ W x, Old w W → RowS W x zss → Calls Tryz.prog 21 #[.agg #[.int .i64 N, v], .agg #[.bool false, x]] W fun e w' => ∃ v', e = .returned v' ∧ Old W w' ∧ OwS qss w' W.heap.size w'.heap.size v') : Calls Tryz.prog 6 #[.agg #[.int .i64 N, v], .agg #[.bool true, u1], .int .i64 t] w (Rs w true qss true) := by
  have c1 := fun W (h : Old w W) => spec_goodRows N ps true xss v u1 W (hv.old h) hf (h1.old h) hlp hx hl1 hr1
  rw [hg] at c1
  have c2 := fun W => spec_odd N t W ht hN
  rw [ho] at c2
  obtain ⟨a0, cap0, ev⟩ := hv.slice
  obtain ⟨a1, cap1, e1⟩ := h1.slice
  subst ev e1
  have HA : Hid (Old w (((w.alloc (.cells #[.int .i64 N, .slice a0 ps.length cap0] 33)).alloc (.cells #[.bool true, .slice a1 xss.length cap1] 30)).alloc (.cells #[.bool false, .slice none 0 0] 30))) := (((Old.refl w).alloc _).alloc _).alloc _
  have HS : Hid (StW (((w.alloc (.cells #[.int .i64 N, .slice a0 ps.length cap0] 33)).alloc (.cells #[.bool true, .slice a1 xss.length cap1] 30)).alloc (.cells #[.bool false, .slice none 0 0] 30)) (w.heap.size + 1 + 1) (.bool false) (.slice none 0 0) 30) := by
    have := StW.new ((w.alloc (.cells #[.int .i64 N, .slice a0 ps.length cap0] 33)).alloc (.cells #[.bool true, .slice a1 xss.length cap1] 30)) (.bool false) (.slice none 0 0) 30
    simp at this
    exact this
  have HBX : Hid (∀ W', Old (((w.alloc (.cells #[.int .i64 N, .slice a0 ps.length cap0] 33)).alloc (.cells #[.bool true, .slice a1 xss.length cap1] 30)).alloc (.cells #[.bool false, .slice none 0 0] 30)) W' → StW W' w.heap.size (.int .i64 N) (.slice a0 ps.length cap0) 33 ∧ StW W' (w.heap.size + 1) (.bool true) (.slice a1 xss.length cap1) 30) := fun W' g => by
    have g1 := Old.trans ((Old.refl _).alloc _) g
    have g0 := Old.trans ((Old.refl _).alloc _) g1
    refine ⟨(StW.new w (.int .i64 N) (.slice a0 ps.length cap0) 33).old g0, ?_⟩
    have h := (StW.new (w.alloc (.cells #[.int .i64 N, .slice a0 ps.length cap0] 33)) (.bool true) (.slice a1 xss.length cap1) 30).old g1
    simp at h
    exact h
  clear hv h1 hf hx hr1 hg
  go_enter Tryz.func6, Tryz.ntmps6
  go_wp2_with fail
  refine (c1 _ HA.out).mono ?_
  rintro e w1 ⟨rfl, g1⟩
  have HG1 : Hid (Old w w1) := Old.trans HA.out g1
  have HGA : Hid (Old (((w.alloc (.cells #[.int .i64 N, .slice a0 ps.length cap0] 33)).alloc (.cells #[.bool true, .slice a1 xss.length cap1] 30)).alloc (.cells #[.bool false, .slice none 0 0] 30)) w1) := g1
  have S1 : Hid (StW w1 (w.heap.size + 1 + 1) (.bool false) (.slice none 0 0) 30) := HS.out.old g1
  have hs : w.heap.size + 1 + 1 < w1.heap.size := S1.out.lt
  have x0 := (HBX.out w1 g1).1.c0
  clear g1
  go_wp2_with fail
  refine (c2 _).mono ?_
  rintro e w1' ⟨rfl, hw'⟩
  rw [hw']
  clear x0 hw' w1'
  have bA := (HBX.out w1 HGA.out).1
  have bB := (HBX.out w1 HGA.out).2
  go_wp2_with fail
  refine reg_tr3 w1 w.heap.size (w.heap.size + 1) _ _ t yss zss bA bB rfl rfl (fun W g => KB W (Old.trans HG1.out g)) (fun W x g h => KT W x (Old.trans HG1.out g) h) _ _ ?_ ?_ ?_ ?_ ?_
  iterate 4 (· exact rfl)
  intro us W g a5 c5 gw hgl e7 hgs ow
  simp only [putAll, Act.put, slotTr, List.range, List.range.loop, List.map_cons, List.map_nil, List.getD_cons_zero, List.getD_cons_succ, List.setIfInBounds_toArray, List.set_cons_succ, List.set_cons_zero]
  rw [e7]
  have HGW : Hid (Old w1 W) := gw
  have OW : Hid (OwS zss W w1.heap.size W.heap.size (.slice a5 zss.length c5)) := ow
  have SF : Hid (StW W (w.heap.size + 1 + 1) (.bool false) (.slice none 0 0) 30) := S1.out.old HGW.out
  have q0 := SF.out.c0
  have q1 := SF.out.c1
  have f0 := SF.out.f0
  have f1 := SF.out.f1
  have y2 := (HBX.out W (Old.trans HGA.out HGW.out)).2.c0
  have SG : Hid (StW W g (.bool false) (.slice a5 zss.length c5) 30) := hgs
  have m0 := SG.out.c0
  have m1 := SG.out.c1
  clear gw ow hgs bA bB
  have y0 := (HBX.out W (Old.trans HGA.out HGW.out)).1.c0
  have y1 := (HBX.out W (Old.trans HGA.out HGW.out)).1.c1
  have hsW := HGW.out.size
  have hgW := SG.out.lt
  go_wp2_with fail
  refine (KA _ _ (Old.trans HG1.out HGW.out) OW.out.rowS).mono ?_
  rintro e w5 ⟨v5, rfl, g5, o5⟩
  obtain ⟨a6, c6, rfl⟩ := o5.slice
  have HG5 : Hid (Old W w5) := g5
  have O5 : Hid (OwS qss w5 W.heap.size w5.heap.size (.slice a6 qss.length c6)) := o5
  have S5 : Hid (StW w5 g (.bool false) (.slice a5 zss.length c5) 30) := SG.out.old g5
  clear g5 o5 y0 y1 y2 m0 m1 q0 q1 f0 f1
  have n0 := S5.out.c0
  have n1 := S5.out.c1
  have n2 := S5.out.f0
  have n3 := S5.out.f1
  obtain ⟨w6, hw6⟩ : ∃ w6, w6 = (w5.setCell ⟨g, 0, none⟩ (.bool true)).setCell ⟨g, 1, none⟩ (.slice a6 qss.length c6) := ⟨_, rfl⟩
  have S6 : Hid (StW w6 g (.bool true) (.slice a6 qss.length c6) 30) := by rw [hw6]; exact st_put2 S5.out _ _
  have G15 : Old w1 w5 := Old.trans HGW.out HG5.out
  have HG6 : Hid (Old w1 w6) := by
    rw [hw6]
    exact (G15.own (p := ⟨g, 0, none⟩) hgl _).own (p := ⟨g, 1, none⟩) hgl _
  have SR6 : Hid (StW w6 (w.heap.size + 1 + 1) (.bool false) (.slice none 0 0) 30) := S1.out.old HG6.out
  have O6 : Hid (OwS qss w6 W.heap.size w6.heap.size (.slice a6 qss.length c6)) := by
    rw [hw6]
    have h5 := (O5.out.put (k := g) (j := 0) (x := .bool true) (by omega)).put (k := g) (j := 1) (x := .slice a6 qss.length c6) (by omega)
    exact h5.high (by simp) (by simp)
  have e0 := S6.out.c0
  have e1 := S6.out.c1
  have q0 := SR6.out.c0
  have q1 := SR6.out.c1
  have f0 := SR6.out.f0
  have f1 := SR6.out.f1
  rw [hw6] at e0 e1 q0 q1 f0 f1
  go_wp2_with fail
  rw [← hw6]
  refine bodyPost_ret (ret_rb Tryz.results6 _ _ rfl rfl (st_put2 SR6.out _ _)) rfl ⟨_, rfl, ?_, a6, c6, rfl, ?_⟩
  · exact ((Old.trans HG1.out HG6.out).own (p := ⟨w.heap.size + 1 + 1, 0, none⟩) (by simp; omega) _).own (p := ⟨w.heap.size + 1 + 1, 1, none⟩) (by simp; omega) _
  · have h2 := (O6.out.put (k := w.heap.size + 1 + 1) (j := 0) (x := .bool true) (by omega)).put (k := w.heap.size + 1 + 1) (j := 1) (x := .slice a6 qss.length c6) (by omega)
    have h3 := h2.low (lo' := w.heap.size) (by omega)
    exact h3.high (by simp) (Nat.le_refl _)
end Go.Proofs.YtpebikjckhcgfaaGreatDoor
/- Proved: the program's TurnRows, out of its table and eachRow. -/
namespace Go.Proofs.YtpebikjckhcgfaaGreatDoor
open Go.ChangeShapes Go.WideShapes Go.ChangeAt Go.RowKit
set_option linter.unusedVariables false
set_option linter.unusedSimpArgs false
set_option maxRecDepth 100000 in
set_option maxHeartbeats 8000000 in
theorem impl_TurnRows_no (N t : Int) (ps : List Int) (xss : List (List Int)) (a : Bool) (a0 a1 : Option Addr) (cap0 cap1 : Nat) (w : World) (ct : ∀ W, Old w W → Calls Tryz.prog 24 #[.int .i64 N, .int .i64 t] W fun e w' => e = .returned (.tuple #[.slice none 0 0, .bool false]) ∧ Old W w') : Calls Tryz.prog 9 #[.agg #[.int .i64 N, .slice a0 ps.length cap0], .agg #[.bool a, .slice a1 xss.length cap1], .int .i64 t] w (Rs w false [] false) := by
  have HA : Hid (Old w ((((w.alloc (.cells #[.int .i64 N, .slice a0 ps.length cap0] 33)).alloc (.cells #[.bool a, .slice a1 xss.length cap1] 30)).alloc (.cells #[.int .i64 t] 3)).alloc (.cells #[.bool false, .slice none 0 0] 30))) := ((((Old.refl w).alloc _).alloc _).alloc _).alloc _
  have HBX : Hid (∀ W', Old ((((w.alloc (.cells #[.int .i64 N, .slice a0 ps.length cap0] 33)).alloc (.cells #[.bool a, .slice a1 xss.length cap1] 30)).alloc (.cells #[.int .i64 t] 3)).alloc (.cells #[.bool false, .slice none 0 0] 30)) W' → StW W' w.heap.size (.int .i64 N) (.slice a0 ps.length cap0) 33 ∧ StW W' (w.heap.size + 1) (.bool a) (.slice a1 xss.length cap1) 30 ∧ W'.cell? ⟨w.heap.size + 1 + 1, 0, none⟩ = some (.int .i64 t) ∧ StW W' (w.heap.size + 1 + 1 + 1) (.bool false) (.slice none 0 0) 30) := fun W' g => by
    have g3 : Old (((w.alloc (.cells #[.int .i64 N, .slice a0 ps.length cap0] 33)).alloc (.cells #[.bool a, .slice a1 xss.length cap1] 30)).alloc (.cells #[.int .i64 t] 3)) W' := Old.trans ((Old.refl _).alloc _) g
    have g2 : Old ((w.alloc (.cells #[.int .i64 N, .slice a0 ps.length cap0] 33)).alloc (.cells #[.bool a, .slice a1 xss.length cap1] 30)) W' := Old.trans ((Old.refl _).alloc _) g3
    have g1 : Old (w.alloc (.cells #[.int .i64 N, .slice a0 ps.length cap0] 33)) W' := Old.trans ((Old.refl _).alloc _) g2
    refine ⟨(StW.new w (.int .i64 N) (.slice a0 ps.length cap0) 33).old g1, ?_, ?_, ?_⟩
    · have h := (StW.new (w.alloc (.cells #[.int .i64 N, .slice a0 ps.length cap0] 33)) (.bool a) (.slice a1 xss.length cap1) 30).old g2
      simp at h
      exact h
    · have h := (g3.cell (p := ⟨((w.alloc (.cells #[.int .i64 N, .slice a0 ps.length cap0] 33)).alloc (.cells #[.bool a, .slice a1 xss.length cap1] 30)).heap.size, 0, none⟩) (by simp)).trans (cell_at ((w.alloc (.cells #[.int .i64 N, .slice a0 ps.length cap0] 33)).alloc (.cells #[.bool a, .slice a1 xss.length cap1] 30)) _ _ _ _ rfl)
      simp at h
      exact h
    · have h := (StW.new (((w.alloc (.cells #[.int .i64 N, .slice a0 ps.length cap0] 33)).alloc (.cells #[.bool a, .slice a1 xss.length cap1] 30)).alloc (.cells #[.int .i64 t] 3)) (.bool false) (.slice none 0 0) 30).old g
      simp at h
      exact h
  obtain ⟨z0, z1, z2, z3⟩ := HBX.out _ (Old.refl _)
  have y0 := z0.c0
  clear z0 z1 z3
  go_enter Tryz.func9, Tryz.ntmps9
  go_wp2_with fail
  refine (ct _ HA.out).mono ?_
  rintro e w1 ⟨rfl, g1⟩
  have HG1 : Hid (Old w w1) := Old.trans HA.out g1
  have S1 : Hid (StW w1 (w.heap.size + 1 + 1 + 1) (.bool false) (.slice none 0 0) 30) := (HBX.out w1 g1).2.2.2
  have hs : w.heap.size + 1 + 1 + 1 < w1.heap.size := ((HBX.out w1 g1).2.2.2).lt
  have q0 := S1.out.c0
  have q1 := S1.out.c1
  have f0 := S1.out.f0
  have f1 := S1.out.f1
  clear g1 y0 z2
  go_wp2_with fail
  refine bodyPost_ret (ret_rb (x := .bool false) (y := .slice none 0 0) (z := .bool false) Tryz.results9 _ _ rfl rfl ((st_put2 S1.out _ _).old ((Old.refl _).alloc _))) rfl ⟨_, rfl, ?_, XR.nil _ _ _ _ (Nat.le_refl _)⟩
  exact ((HG1.out.own (p := ⟨w.heap.size + 1 + 1 + 1, 0, none⟩) (by simp; omega) _).own (p := ⟨w.heap.size + 1 + 1 + 1, 1, none⟩) (by simp; omega) _).alloc _
set_option maxRecDepth 100000 in
set_option maxHeartbeats 8000000 in
theorem impl_TurnRows_yes (N t : Int) (ps : List Int) (xss : List (List Int)) (a : Bool) (a0 a1 : Option Addr) (cap0 cap1 : Nat) (w : World) (ts : List Int) (n : Bool) (zss : List (List Int)) (ok : Bool) (ct : ∀ W, Old w W → Calls Tryz.prog 24 #[.int .i64 N, .int .i64 t] W fun e w' => ∃ v', e = .returned (.tuple #[v', .bool true]) ∧ Old W w' ∧ Own w' W.heap.size v' ts)
    (c : ∀ W tb gb at0 tc, Old w W → W.cell? ⟨tb, 0, none⟩ = some (.slice at0 ts.length tc) → W.cell? ⟨gb, 0, none⟩ = some (.int .i64 t) → Row W (.slice at0 ts.length tc) ts → Calls Tryz.prog 25 #[.agg #[.int .i64 N, .slice a0 ps.length cap0], .agg #[.bool a, .slice a1 xss.length cap1], .bool a, .func (.func 26) #[] #[.pointer (some ⟨tb, 0, none⟩), .pointer (some ⟨gb, 0, none⟩)]] W (Rs W n zss ok)) : Calls Tryz.prog 9 #[.agg #[.int .i64 N, .slice a0 ps.length cap0], .agg #[.bool a, .slice a1 xss.length cap1], .int .i64 t] w (Rs w n zss ok) := by
  have HA : Hid (Old w ((((w.alloc (.cells #[.int .i64 N, .slice a0 ps.length cap0] 33)).alloc (.cells #[.bool a, .slice a1 xss.length cap1] 30)).alloc (.cells #[.int .i64 t] 3)).alloc (.cells #[.bool false, .slice none 0 0] 30))) := ((((Old.refl w).alloc _).alloc _).alloc _).alloc _
  have HBX : Hid (∀ W', Old ((((w.alloc (.cells #[.int .i64 N, .slice a0 ps.length cap0] 33)).alloc (.cells #[.bool a, .slice a1 xss.length cap1] 30)).alloc (.cells #[.int .i64 t] 3)).alloc (.cells #[.bool false, .slice none 0 0] 30)) W' → StW W' w.heap.size (.int .i64 N) (.slice a0 ps.length cap0) 33 ∧ StW W' (w.heap.size + 1) (.bool a) (.slice a1 xss.length cap1) 30 ∧ W'.cell? ⟨w.heap.size + 1 + 1, 0, none⟩ = some (.int .i64 t) ∧ StW W' (w.heap.size + 1 + 1 + 1) (.bool false) (.slice none 0 0) 30) := fun W' g => by
    have g3 : Old (((w.alloc (.cells #[.int .i64 N, .slice a0 ps.length cap0] 33)).alloc (.cells #[.bool a, .slice a1 xss.length cap1] 30)).alloc (.cells #[.int .i64 t] 3)) W' := Old.trans ((Old.refl _).alloc _) g
    have g2 : Old ((w.alloc (.cells #[.int .i64 N, .slice a0 ps.length cap0] 33)).alloc (.cells #[.bool a, .slice a1 xss.length cap1] 30)) W' := Old.trans ((Old.refl _).alloc _) g3
    have g1 : Old (w.alloc (.cells #[.int .i64 N, .slice a0 ps.length cap0] 33)) W' := Old.trans ((Old.refl _).alloc _) g2
    refine ⟨(StW.new w (.int .i64 N) (.slice a0 ps.length cap0) 33).old g1, ?_, ?_, ?_⟩
    · have h := (StW.new (w.alloc (.cells #[.int .i64 N, .slice a0 ps.length cap0] 33)) (.bool a) (.slice a1 xss.length cap1) 30).old g2
      simp at h
      exact h
    · have h := (g3.cell (p := ⟨((w.alloc (.cells #[.int .i64 N, .slice a0 ps.length cap0] 33)).alloc (.cells #[.bool a, .slice a1 xss.length cap1] 30)).heap.size, 0, none⟩) (by simp)).trans (cell_at ((w.alloc (.cells #[.int .i64 N, .slice a0 ps.length cap0] 33)).alloc (.cells #[.bool a, .slice a1 xss.length cap1] 30)) _ _ _ _ rfl)
      simp at h
      exact h
    · have h := (StW.new (((w.alloc (.cells #[.int .i64 N, .slice a0 ps.length cap0] 33)).alloc (.cells #[.bool a, .slice a1 xss.length cap1] 30)).alloc (.cells #[.int .i64 t] 3)) (.bool false) (.slice none 0 0) 30).old g
      simp at h
      exact h
  obtain ⟨z0, z1, z2, z3⟩ := HBX.out _ (Old.refl _)
  have y0 := z0.c0
  clear z0 z1 z3
  go_enter Tryz.func9, Tryz.ntmps9
  go_wp2_with fail
  refine (ct _ HA.out).mono ?_
  rintro e w1 ⟨v1, rfl, g1, o1⟩
  obtain ⟨at0, tc, rfl⟩ := (Own.row o1).slice
  have HG1 : Hid (Old w w1) := Old.trans HA.out g1
  obtain ⟨wT, hwT⟩ : ∃ wT, wT = (w1.alloc (.cells #[.slice at0 ts.length tc] 22)) := ⟨_, rfl⟩
  have HGB : Hid (Old w1 wT) := by rw [hwT]; exact (Old.refl w1).alloc _
  have RT : Hid (Row wT (.slice at0 ts.length tc) ts) := (Own.row o1).old HGB.out
  have kT : wT.cell? ⟨w1.heap.size, 0, none⟩ = some (.slice at0 ts.length tc) := by rw [hwT]; exact cell_at _ _ _ _ _ rfl
  obtain ⟨b0, b1, b2, b3⟩ := HBX.out wT (Old.trans g1 HGB.out)
  have S1 : Hid (StW wT (w.heap.size + 1 + 1 + 1) (.bool false) (.slice none 0 0) 30) := b3
  have hs : w.heap.size + 1 + 1 + 1 < wT.heap.size := b3.lt
  have cc := c wT w1.heap.size (w.heap.size + 1 + 1) at0 tc (Old.trans HG1.out HGB.out) kT b2 RT.out
  have x0 := b0.c0
  have x1 := b0.c1
  have x2 := b1.c0
  have x3 := b1.c1
  rw [hwT] at x0 x1 x2 x3
  clear g1 o1 y0 z2 c b0 b1 b2 b3 kT
  go_wp2_with fail
  rw [← hwT]
  refine cc.mono ?_
  rintro e w2 ⟨r0, rfl, g2, xr⟩
  obtain ⟨ax, cx, rfl, ox⟩ := xr
  have HG2 : Hid (Old w w2) := Old.trans (Old.trans HG1.out HGB.out) g2
  have S2 : Hid (StW w2 (w.heap.size + 1 + 1 + 1) (.bool false) (.slice none 0 0) 30) := S1.out.old g2
  have OX : Hid (OwS zss w2 wT.heap.size w2.heap.size (.slice ax zss.length cx)) := ox
  have q0 := S2.out.c0
  have q1 := S2.out.c1
  have f0 := S2.out.f0
  have f1 := S2.out.f1
  clear g2 ox x0 x1 x2 x3
  go_wp2_with fail
  refine bodyPost_ret (ret_rb Tryz.results9 _ _ rfl rfl (st_put2 S2.out _ _)) rfl ⟨_, rfl, ?_, ax, cx, rfl, ?_⟩
  · exact (HG2.out.own (p := ⟨w.heap.size + 1 + 1 + 1, 0, none⟩) (by simp; omega) _).own (p := ⟨w.heap.size + 1 + 1 + 1, 1, none⟩) (by simp; omega) _
  · have h2 := (OX.out.put (k := w.heap.size + 1 + 1 + 1) (j := 0) (x := .bool n) (by omega)).put (k := w.heap.size + 1 + 1 + 1) (j := 1) (x := .slice ax zss.length cx) (by omega)
    have h3 := h2.low (lo' := w.heap.size) (by omega)
    exact h3.high (by simp) (Nat.le_refl _)
end Go.Proofs.YtpebikjckhcgfaaGreatDoor
