/- Proved: several texts in one: what each proves is said ahead of it. -/
import Derived.Test.YtfgooclnohnkmaaGreatDoorWq04
import Derived.Test.YtfgooclnohnkmaaGreatDoorWq12
import Derived.Test.YtfgooclnohnkmaaGreatDoorWq17
import Derived.Deep.RegionHeld3
import Derived.Test.YtfgooclnohnkmaaGreatDoorWq18
import Derived.Deep.RegionWith
import Derived.Test.YtfgooclnohnkmaaGreatDoorWq13
import Derived.Test.YtfgooclnohnkmaaGreatDoorWq09
import Derived.Test.YtfgooclnohnkmaaGreatDoorCopy
import Derived.Test.YtfgooclnohnkmaaGreatDoorWq14
import Derived.Test.YtfgooclnohnkmaaGreatDoorWq30
import Derived.Test.YtfgooclnohnkmaaGreatDoorWq26
import Derived.Test.YtfgooclnohnkmaaGreatDoorSpInv
import Derived.Test.YtfgooclnohnkmaaGreatDoorWq33
/- Proved: rows of rows as a law carries them: marks that are held still. -/
namespace Go.Proofs.YtfgooclnohnkmaaGreatDoor
open Go.ChangeShapes Go.WideShapes Go.ChangeAt Go.RowKit
set_option linter.unusedVariables false
set_option linter.unusedSimpArgs false
/-- rows with marks, in a struct -/
def XM (n : Bool) (k : Int) (xss : List (List Int)) (W : World) (lo hi : Nat) (g : Array Value) : Prop := ∃ a c, g = #[.bool n, .slice a xss.length c] ∧ OwM k xss W lo hi (.slice a xss.length c)
set_option maxHeartbeats 1000000 in
theorem kr_mark (n : Bool) (xss : List (List Int)) (k : Int) (w : World) (lo hi : Nat) (g : Array Value) (h : XR n xss w lo hi g) (hl : xss.length ≤ 1048576) (hr : ∀ r ∈ xss, r.length ≤ 1048576) (hk : 0 ≤ k) (hs : k + (offL xss xss.length : Int) ≤ 1073741824) :
    Calls Tryz.prog 33 #[.agg g, .int .i64 k] w fun e w' => e = .returned (.int .i64 (k + offL xss xss.length)) ∧ Chg w w' lo hi ∧ XM n k xss w' lo hi g := by
  obtain ⟨a0, cap0, rfl, o⟩ := h
  have HO : Hid (OwS xss (w.alloc (.cells #[.bool n, .slice a0 xss.length cap0] 58)) lo hi (.slice a0 xss.length cap0)) := (far_OwS xss).old o ((Old.refl w).alloc _) o.1
  have HA : Hid (Chg w (w.alloc (.cells #[.bool n, .slice a0 xss.length cap0] 58)) lo hi) := ((Old.refl w).alloc _).toChg lo hi
  have HR : Hid (∀ r ∈ xss, r.length ≤ 1048576) := hr
  have HS : Hid (k + (offL xss xss.length : Int) ≤ 1073741824) := hs
  clear o hr hs
  go_enter Tryz.func33, Tryz.ntmps33
  go_wp2_with fail
  refine (markIntSS_any xss _ k lo hi _ HO.out hl HR.out hk HS.out).mono ?_
  rintro e w1 ⟨rfl, g1, o1⟩
  have HG : Hid (Chg w w1 lo hi) := Chg.trans HA.out g1
  have HM : Hid (OwM k xss w1 lo hi (.slice a0 xss.length cap0)) := o1
  clear g1 o1
  go_wp2_with fail
  go_ret
  exact ⟨rfl, HG.out, _, _, rfl, HM.out⟩
end Go.Proofs.YtfgooclnohnkmaaGreatDoor
/- Proved: the model's AddRows. -/
namespace Go.Proofs.YtfgooclnohnkmaaGreatDoor
open Go.ChangeShapes Go.WideShapes Go.ChangeAt Go.RowKit
open M1
set_option linter.unusedVariables false
set_option linter.unusedSimpArgs false
theorem infoRw : (Tryz.prog.info? 58).map (·.size) = some 2 := by kernel_rfl
/-- rows and a bool that are answered -/
theorem ret_rb {fn : Func} {p u : Tmp} (h : fn.results = #[.cell p 58, .tmp u]) (tmps : Array Value) (w : World) {g : Nat} {x y z : Value} (hp : tmps.getD p undef = .pointer (some ⟨g, 0, none⟩)) (hu : tmps.getD u undef = z) (hs : StW w g x y 58) :
    (results fn tmps).run Tryz.prog w = .ok (.tuple #[.agg #[x, y], z]) w := by
  have hld := run_loadVar_row (P := Tryz.prog) w g 58 58 #[x, y] (0, 0) _ hs Tryz.underlying58 rfl infoRw
  rw [results_cell_tmp h, hp, hu]
  simp [asAddr, Result.andThen, hld]
/-- both rows good and both ahead or both not -/
def twoB (N : Int) (ps : List Int) (a b : Bool) (xss yss : List (List Int)) : Bool := grB N ps xss && (rwB N ps yss && (a == b))
theorem two_parts {N : Int} {ps : List Int} {a b : Bool} {xss yss : List (List Int)} (h : twoB N ps a b xss yss = true) : (N = 2 ∨ N = 4 ∨ N = 8 ∨ N = 16) ∧ (1 ≤ ps.length ∧ ps.length ≤ 6) ∧ xss.length = ps.length ∧ yss.length = ps.length ∧ a = b ∧
    ∀ k, k < ps.length → ((xss.getD k []).length : Int) = N ∧ ((yss.getD k []).length : Int) = N ∧ (2 ≤ ps.getD k 0 ∧ ps.getD k 0 ≤ 268435456) ∧ ∀ i, i < (xss.getD k []).length → (0 ≤ (xss.getD k []).getD i 0 ∧ (xss.getD k []).getD i 0 < ps.getD k 0) ∧ (0 ≤ (yss.getD k []).getD i 0 ∧ (yss.getD k []).getD i 0 < ps.getD k 0) := by
  unfold twoB grB at h
  rw [Bool.and_eq_true, Bool.and_eq_true, Bool.and_eq_true] at h
  obtain ⟨⟨h1, h2⟩, h3, h4⟩ := h
  obtain ⟨s1, s2, s3⟩ := sp_ring h1
  obtain ⟨b1, b2⟩ := bas_at s2
  unfold rwB at h2 h3
  rw [Bool.and_eq_true] at h2 h3
  have l1 := of_decide_eq_true h2.1
  have l2 := of_decide_eq_true h3.1
  refine ⟨s1, b1, l1, l2, by simpa using h4, fun k hk => ?_⟩
  have r1 := of_decide_eq_true h2.2 k hk (Nat.zero_le _)
  have r2 := of_decide_eq_true h3.2 k hk (Nat.zero_le _)
  unfold polyB at r1 r2
  rw [Bool.and_eq_true] at r1 r2
  have e1 := of_decide_eq_true r1.1
  have e2 := of_decide_eq_true r2.1
  refine ⟨e1, e2, pm_bd (b2 k hk), fun i hi => ?_⟩
  have key : ∀ (xs : List Int) (p : Int), xs.all (fun x => resB x p) = true → ∀ i, i < xs.length → 0 ≤ xs.getD i 0 ∧ xs.getD i 0 < p := fun xs p ha i hi => by
    have := List.all_eq_true.1 ha (xs.getD i 0) (by simp [List.getD, hi])
    simpa [resB] using this
  exact ⟨key _ _ r1.2 i hi, key _ _ r2.2 i (by omega)⟩
end Go.Proofs.YtfgooclnohnkmaaGreatDoor
/- Proved: the model's AddRows. -/
namespace Go.Proofs.YtfgooclnohnkmaaGreatDoor
open Go.ChangeShapes Go.WideShapes Go.ChangeAt Go.RowKit
open M1
set_option linter.unusedVariables false
set_option linter.unusedSimpArgs false
/-- rows that are answered, and whether -/
def Rs (w : World) (n : Bool) (zss : List (List Int)) (ok : Bool) (e : Ending) (w' : World) : Prop := ∃ r0, e = .returned (.tuple #[.agg r0, .bool ok]) ∧ Old w w' ∧ XR n zss w' w.heap.size w'.heap.size r0
theorem st_put2 {w : World} {k : Nat} {x y : Value} {t : TypeId} (h : StW w k x y t) (x' y' : Value) : StW ((w.setCell ⟨k, 0, none⟩ x').setCell ⟨k, 1, none⟩ y') k x' y' t := by
  have h1 := heap_setCell_same w k 0 _ _ x' h
  have h2 := heap_setCell_same _ k 1 _ _ y' h1
  exact h2
theorem XR.nil (n : Bool) (W : World) (lo hi : Nat) (h : hi ≤ W.heap.size) : XR n [] W lo hi #[.bool n, .slice none 0 0] := ⟨none, 0, rfl, h, Or.inl ⟨rfl, rfl⟩⟩
end Go.Proofs.YtfgooclnohnkmaaGreatDoor
/- Proved: rows of rows that are made whole and filled row by row. -/
namespace Go.Proofs.YtfgooclnohnkmaaGreatDoor
open Go.ChangeShapes Go.WideShapes Go.ChangeAt Go.RowKit
set_option linter.unusedVariables false
set_option linter.unusedSimpArgs false
/-- the first k rows are filled -/
def MkS (zss : List (List Int)) (W : World) (lo p k : Nat) : Prop :=
  ∃ vs : List Value, W.ownsRow lo 23 1 (.slice (some ⟨p, 0, none⟩) zss.length zss.length) zss.length vs ∧ vs.length = zss.length
    ∧ (∀ j, j < k → ∃ a c, vs[j]? = some (.slice a (zss.getD j []).length c) ∧ (zss.getD j []).length ≤ c ∧ Own W lo (.slice a (zss.getD j []).length c) (zss.getD j []) ∧ (∀ b, (Value.slice a (zss.getD j []).length c).ownBlock = some b → b ≠ p))
    ∧ (∀ (i j : Nat) (x y : Value) (b : Nat), i < j → j < k → vs[i]? = some x → vs[j]? = some y → x.ownBlock = some b → y.ownBlock = some b → False)
theorem MkS.start {zss : List (List Int)} {W : World} {lo p : Nat} (h : W.ownsRow lo 23 1 (.slice (some ⟨p, 0, none⟩) zss.length zss.length) zss.length (List.replicate zss.length (Value.slice none 0 0))) : MkS zss W lo p 0 :=
  ⟨_, h, by simp, fun j hj => by omega, fun i j x y b h1 h2 => by omega⟩
theorem MkS.own_old {zss : List (List Int)} {W W' : World} {lo p k : Nat} (h : MkS zss W lo p k) (g : Old W W') : MkS zss W' lo p k := by
  obtain ⟨vs, ho, hl, hj, hd⟩ := h
  refine ⟨vs, ⟨ho.1, ?_⟩, hl, fun j hjk => ?_, hd⟩
  · rcases ho.2 with hn | ⟨q, cap', cur, e, hb', hgg, rest⟩
    · exact .inl hn
    · refine .inr ⟨q, cap', cur, e, hb', ?_, rest⟩
      rw [g.block q (Array.getElem?_eq_some_iff.1 hgg).1]
      exact hgg
  · obtain ⟨a, c, h1, h2, h3, h4⟩ := hj j hjk
    exact ⟨a, c, h1, h2, h3.old g, h4⟩
theorem MkS.cell {zss : List (List Int)} {W : World} {lo p k : Nat} (h : MkS zss W lo p k) (j : Nat) (hj : j < zss.length) : (∃ y, W.cell? ⟨p, j, none⟩ = some y) ∧ W.frozen? ⟨p, j, none⟩ = false := by
  obtain ⟨vs, ho, hl, _, _⟩ := h
  refine ⟨⟨vs[j]'(by omega), ?_⟩, World.ownsRow.frozenAt ho j⟩
  rw [World.ownsRow.cellAt ho j (by omega)]
  exact List.getElem?_eq_getElem _
theorem MkS.step {zss : List (List Int)} {W W' : World} {lo p k g : Nat} {n c : Nat} (h : MkS zss W lo p k) (hk : k < zss.length) (q : Old W W') (hlo : lo ≤ W.heap.size) (hp : p < W.heap.size) (hn : (zss.getD k []).length = n) (hc : n ≤ c) (o : Own W' W.heap.size (.slice (some ⟨g, 0, none⟩) n c) (zss.getD k [])) (hg : W.heap.size ≤ g) :
    MkS zss (W'.setCell ⟨p, k, none⟩ (.slice (some ⟨g, 0, none⟩) n c)) lo p (k + 1) := by
  subst hn
  obtain ⟨vs, ho, hl, hj, hd⟩ := h.own_old q
  obtain ⟨vs0, ho0, hl0, hj0, hd0⟩ := h
  have hbw : ∀ i x b, i < k → vs[i]? = some x → x.ownBlock = some b → b < W.heap.size := fun i x b hi hx hb => by
    have e : vs0 = vs := by
      have e1 := fun i (hi : i < zss.length) => World.ownsRow.cellAt ho0 i (by omega)
      have e2 := fun i (hi : i < zss.length) => World.ownsRow.cellAt ho i (by omega)
      apply List.ext_getElem?
      intro i
      rcases Nat.lt_or_ge i zss.length with h1 | h1
      · rw [← e1 i h1, ← e2 i h1]
        exact (q.cell (p := ⟨p, i, none⟩) hp).symm
      · rw [List.getElem?_eq_none (by omega), List.getElem?_eq_none (by omega)]
    obtain ⟨a, c, h1, h2, h3, h4⟩ := hj0 i hi
    rw [← e, h1] at hx
    obtain rfl := Option.some.inj hx
    exact (h3.lt b hb).2
  refine ⟨vs.set k (.slice (some ⟨g, 0, none⟩) (zss.getD k []).length c), (World.ownsRow.stored ho k _).1, by simp [hl], fun j hjk => ?_, fun i j x y b hij hjk hx hy hbx hby => ?_⟩
  · rcases Nat.lt_or_ge j k with h1 | h1
    · obtain ⟨a, c2, e1, e2, e3, e4⟩ := hj j h1
      refine ⟨a, c2, ?_, e2, ?_, e4⟩
      · rw [List.getElem?_set_ne (by omega)]
        exact e1
      · exact ownsRow_setCell_other e3 (fun e => e4 _ e rfl) _
    · obtain rfl : j = k := by omega
      refine ⟨_, _, by rw [List.getElem?_set_self (by omega)], hc, Own.low (ownsRow_setCell_other o (by simp [Value.ownBlock]; omega) _) hlo, fun b hb => ?_⟩
      simp [Value.ownBlock] at hb
      omega
  · rcases Nat.lt_or_ge j k with h1 | h1
    · rw [List.getElem?_set_ne (by omega)] at hx hy
      exact hd i j x y b hij h1 hx hy hbx hby
    · obtain rfl : j = k := by omega
      rw [List.getElem?_set_ne (by omega)] at hx
      rw [List.getElem?_set_self (by omega)] at hy
      obtain rfl := Option.some.inj hy
      simp [Value.ownBlock] at hby
      have := hbw i x b hij hx hbx
      omega
theorem MkS.done {zss : List (List Int)} {W : World} {lo p : Nat} (h : MkS zss W lo p zss.length) (hlo : lo ≤ p) (hp : p < W.heap.size) : OwS zss W lo W.heap.size (.slice (some ⟨p, 0, none⟩) zss.length zss.length) := by
  obtain ⟨vs, ho, hl, hj, hd⟩ := h
  refine ⟨Nat.le_refl _, Or.inr ⟨p, zss.length, vs, rfl, Nat.le_refl _, hlo, hp, ho, hl, fun j hjl => ?_, fun i j x y b hij hx hy => ?_⟩⟩
  · obtain ⟨a, c, h1, h2, h3, h4⟩ := hj j hjl
    exact ⟨a, c, h1, h2, ⟨h3, Nat.le_refl _, fun b hb => (h3.lt b hb).2⟩, h4⟩
  · have hjl := (List.getElem?_eq_some_iff.1 hy).1
    exact hd i j x y b hij (by omega) hx hy
theorem Row.recap {W : World} {a : Option Addr} {n c c' : Nat} {xs : List Int} (h : Row W (.slice a n c) xs) (h0 : xs ≠ []) : Row W (.slice a n c') xs := by
  rcases h with ⟨_, _, e, e'⟩ | ⟨b, o, cap, e, r⟩
  · exact absurd e' h0
  · simp only [Value.slice.injEq] at e
    obtain ⟨rfl, rfl, rfl⟩ := e
    exact Or.inr ⟨b, o, c', rfl, r⟩
end Go.Proofs.YtfgooclnohnkmaaGreatDoor
/- Proved: the program's AddRows. -/
namespace Go.Proofs.YtfgooclnohnkmaaGreatDoor
open Go.ChangeShapes Go.WideShapes Go.ChangeAt Go.RowKit
open M1
set_option linter.unusedVariables false
set_option linter.unusedSimpArgs false
theorem two_of {N : Int} {ps : List Int} {a b : Bool} {xss yss : List (List Int)} : twoB N ps a b xss yss = true ↔ (grB N ps xss = true ∧ grB N ps yss = true ∧ a = b) := by
  unfold twoB grB
  cases spB N ps <;> cases rwB N ps xss <;> cases rwB N ps yss <;> cases a <;> cases b <;> simp
theorem OwS.ats {xss : List (List Int)} {W : World} {lo hi : Nat} {v : Value} (ps : List Int) (h : OwS xss W lo hi v) : ∃ us cs, 0 < xss.length → RowsAt W v ps xss us cs := by
  rcases Nat.eq_zero_or_pos xss.length with h0 | h0
  · exact ⟨fun _ => none, fun _ => 0, fun h => by omega⟩
  · obtain ⟨us, cs, h⟩ := h.at ps h0
    exact ⟨us, cs, fun _ => h⟩
end Go.Proofs.YtfgooclnohnkmaaGreatDoor
/- Proved: the program's AheadRows and BackRows, out of eachRow. -/
namespace Go.Proofs.YtfgooclnohnkmaaGreatDoor
open Go.ChangeShapes Go.WideShapes Go.ChangeAt Go.RowKit
set_option linter.unusedVariables false
set_option linter.unusedSimpArgs false
set_option maxRecDepth 100000 in
set_option maxHeartbeats 4000000 in
theorem impl_BackRows_of (N : Int) (ps : List Int) (xss : List (List Int)) (a : Bool) (a0 a1 : Option Addr) (cap0 cap1 : Nat) (w : World) (n : Bool) (zss : List (List Int)) (ok : Bool)
    (c : ∀ W, Old w W → Calls Tryz.prog 156 #[.agg #[.int .i64 N, .slice a0 ps.length cap0], .agg #[.bool a, .slice a1 xss.length cap1], .bool false, .func (.func 157) #[] #[]] W (Rs W n zss ok)) :
    Calls Tryz.prog 87 #[.agg #[.int .i64 N, .slice a0 ps.length cap0], .agg #[.bool a, .slice a1 xss.length cap1]] w (Rs w n zss ok) := by
  have HA : Hid (Old w (((w.alloc (.cells #[.int .i64 N, .slice a0 ps.length cap0] 56)).alloc (.cells #[.bool a, .slice a1 xss.length cap1] 58)).alloc (.cells #[.bool false, .slice none 0 0] 58))) := (((Old.refl w).alloc _).alloc _).alloc _
  have HS : Hid (StW (((w.alloc (.cells #[.int .i64 N, .slice a0 ps.length cap0] 56)).alloc (.cells #[.bool a, .slice a1 xss.length cap1] 58)).alloc (.cells #[.bool false, .slice none 0 0] 58)) (w.heap.size + 1 + 1) (.bool false) (.slice none 0 0) 58) := by
    have := StW.new ((w.alloc (.cells #[.int .i64 N, .slice a0 ps.length cap0] 56)).alloc (.cells #[.bool a, .slice a1 xss.length cap1] 58)) (.bool false) (.slice none 0 0) 58
    simp at this
    exact this
  have HBX : Hid (∀ W', Old (((w.alloc (.cells #[.int .i64 N, .slice a0 ps.length cap0] 56)).alloc (.cells #[.bool a, .slice a1 xss.length cap1] 58)).alloc (.cells #[.bool false, .slice none 0 0] 58)) W' → StW W' w.heap.size (.int .i64 N) (.slice a0 ps.length cap0) 56 ∧ StW W' (w.heap.size + 1) (.bool a) (.slice a1 xss.length cap1) 58) := fun W' g => by
    have g1 := Old.trans ((Old.refl _).alloc _) g
    have g0 := Old.trans ((Old.refl _).alloc _) g1
    refine ⟨(StW.new w (.int .i64 N) (.slice a0 ps.length cap0) 56).old g0, ?_⟩
    have h := (StW.new (w.alloc (.cells #[.int .i64 N, .slice a0 ps.length cap0] 56)) (.bool a) (.slice a1 xss.length cap1) 58).old g1
    simp at h
    exact h
  go_enter Tryz.func87, Tryz.ntmps87
  go_wp2_with fail
  refine (c _ HA.out).mono ?_
  rintro e w2 ⟨r0, rfl, g2, xr⟩
  obtain ⟨ax, cx, rfl, ox⟩ := xr
  have HG2 : Hid (Old w w2) := Old.trans HA.out g2
  have S2 : Hid (StW w2 (w.heap.size + 1 + 1) (.bool false) (.slice none 0 0) 58) := HS.out.old g2
  have OX : Hid (OwS zss w2 (((w.alloc (.cells #[.int .i64 N, .slice a0 ps.length cap0] 56)).alloc (.cells #[.bool a, .slice a1 xss.length cap1] 58)).alloc (.cells #[.bool false, .slice none 0 0] 58)).heap.size w2.heap.size (.slice ax zss.length cx)) := ox
  have HSZ : Hid ((((w.alloc (.cells #[.int .i64 N, .slice a0 ps.length cap0] 56)).alloc (.cells #[.bool a, .slice a1 xss.length cap1] 58)).alloc (.cells #[.bool false, .slice none 0 0] 58)).heap.size = w.heap.size + 1 + 1 + 1) := by show _ = _; simp
  have q0 := S2.out.c0
  have q1 := S2.out.c1
  have f0 := S2.out.f0
  have f1 := S2.out.f1
  clear g2 ox
  go_wp2_with fail
  have hs3 := HSZ.out
  refine bodyPost_ret (ret_rb Tryz.results87 _ _ rfl rfl (st_put2 S2.out _ _)) rfl ⟨_, rfl, ?_, ax, cx, rfl, ?_⟩
  · exact (HG2.out.own (p := ⟨w.heap.size + 1 + 1, 0, none⟩) (by simp; omega) _).own (p := ⟨w.heap.size + 1 + 1, 1, none⟩) (by simp; omega) _
  · have h2 := (OX.out.put (k := w.heap.size + 1 + 1) (j := 0) (x := .bool n) (by omega)).put (k := w.heap.size + 1 + 1) (j := 1) (x := .slice ax zss.length cx) (by omega)
    have h3 := h2.low (lo' := w.heap.size) (by omega)
    exact h3.high (by simp) (Nat.le_refl _)
end Go.Proofs.YtfgooclnohnkmaaGreatDoor
/- Proved: a row copied by the program, and its changes madeAhead and madeBack. -/
namespace Go.Proofs.YtfgooclnohnkmaaGreatDoor
open Go.ChangeShapes Go.WideShapes Go.ChangeAt Go.RowKit
set_option linter.unusedVariables false
set_option linter.unusedSimpArgs false
theorem own_some {W : World} {base : Nat} {v : Value} {zs : List Int} (h : Own W base v zs) (h0 : 0 < zs.length) : ∃ g rc, v = .slice (some ⟨g, 0, none⟩) zs.length rc ∧ zs.length ≤ rc := by
  rcases h.2 with ⟨e, hn⟩ | ⟨_, _, _, e, _, _, hn, _⟩
  · omega
  · exact ⟨_, _, e, hn⟩
set_option maxRecDepth 100000 in
set_option maxHeartbeats 4000000 in
theorem impl_copied (p r : Int) (n : Bool) (Nn : Nat) (zs : List Int) (ua : Option Addr) (w : World) (hv : Row w (.slice ua Nn Nn) zs) (hN : 2 ≤ Nn ∧ Nn ≤ 16) (la : zs.length = Nn) :
    Calls Tryz.prog 190 #[.agg #[.int .i64 p, .int .i64 Nn, .int .i64 r, .bool n, .slice ua Nn Nn]] w fun e w' => ∃ g cp, e = .returned (.slice (some ⟨g, 0, none⟩) Nn cp) ∧ Nn ≤ cp ∧ Old w w' ∧ Own w' w.heap.size (.slice (some ⟨g, 0, none⟩) Nn cp) zs := by
  obtain ⟨i0, hi, hz0, hz1, hz2⟩ := info_parts Tryz.infoInt
  rcases hv with ⟨_, _, e, e'⟩ | ⟨b1, o1, cap1, e, hb1, h01, hc1⟩
  · subst e'
    simp at la
    omega
  simp only [Value.slice.injEq] at e
  obtain ⟨rfl, e7, e8⟩ := e
  have HC1 : Hid (∀ j, j < Nn → w.cell? ⟨b1, o1 + j, none⟩ = some (.int .i64 (zs.getD j 0))) := fun j hj => hc1 j (by omega)
  clear hc1 e7 e8 h01
  obtain ⟨wB, hwB⟩ : ∃ wB, wB = w.alloc (.cells #[.int .i64 p, .int .i64 Nn, .int .i64 r, .bool n, .slice (some ⟨b1, o1, none⟩) Nn Nn] 153) := ⟨_, rfl⟩
  have HWB : Hid (Old w wB) := by rw [hwB]; exact (Old.refl w).alloc _
  have HB : Hid (∀ W', Old wB W' → (W'.cell? ⟨w.heap.size, 1, none⟩ = some (.int .i64 Nn) ∧ W'.cell? ⟨w.heap.size, 4, none⟩ = some (.slice (some ⟨b1, o1, none⟩) Nn Nn))) := fun W' g => by
    rw [hwB] at g
    exact ⟨(g.cell (p := ⟨w.heap.size, 1, none⟩) (by simp)).trans (cell_at _ _ _ _ _ rfl), (g.cell (p := ⟨w.heap.size, 4, none⟩) (by simp)).trans (cell_at _ _ _ _ _ rfl)⟩
  have HSZ : wB.heap.size = w.heap.size + 1 := by rw [hwB]; simp
  go_enter Tryz.func190, Tryz.ntmps190
  go_wp2_with (first
    | (at_make; rw [← hwB]; refine wpList_make_full _ rfl _ _ 23 rfl wB.heap.size 3 i0 (.int .i64 0) 1 Tryz.underlying23 hi hz0 hz1 .i64 .i64 _ _ Nn rfl rfl rfl rfl (by rw [hz2]; omega) (by unfold maxLen; omega) (Nat.le_refl _) ?_; intro w1 hown hgrow; have HO1 : Hid (OwnI w1 (w.heap.size + 1) (w.heap.size + 1) Nn (List.replicate Nn 0)) := (by rw [made_ints, HSZ] at hown; exact hown); have HG1 : Hid (Old wB w1) := Old.by_ (Old.refl _) hgrow (fun b hb => by cases hb); have z4 := (HB.out w1 HG1.out).2; rw [HSZ]; clear hown hgrow)
    | ((with_reducible refine copy_row (w.heap.size + 1) (w.heap.size + 1) Nn b1 o1 Nn (List.replicate Nn 0) zs ?_ ?_ HO1.out ?_ la ?_ ?_); exact rfl; exact rfl; (simp); (intro j hj; exact ((Old.trans HWB.out HG1.out).cell (p := ⟨b1, o1 + j, none⟩) hb1).trans (HC1.out j hj)); intro w2 ho2 hbe2; have HO2 : Hid (OwnI w2 (w.heap.size + 1) (w.heap.size + 1) Nn zs) := ho2; have HG2 : Hid (Old w w2) := Old.trans HWB.out (Below.trans HG1.out (hbe2.mono (by rw [HSZ]; omega))); clear ho2 hbe2))
  go_ret
  exact ⟨_, _, rfl, Nat.le_refl _, HG2.out, (HO2.out.own la).low (by omega)⟩
set_option maxRecDepth 100000 in
set_option maxHeartbeats 4000000 in
theorem impl_madeBack_c (p r : Int) (Nn : Nat) (zs : List Int) (ua : Option Addr) (w : World) (KC : ∀ W, Old w W → Calls Tryz.prog 190 #[.agg #[.int .i64 p, .int .i64 Nn, .int .i64 r, .bool false, .slice ua Nn Nn]] W fun e w' => ∃ g cp, e = .returned (.slice (some ⟨g, 0, none⟩) Nn cp) ∧ Nn ≤ cp ∧ Old W w' ∧ Own w' W.heap.size (.slice (some ⟨g, 0, none⟩) Nn cp) zs) :
    Calls Tryz.prog 157 #[.agg #[.int .i64 p, .int .i64 Nn, .int .i64 r, .bool false, .slice ua Nn Nn]] w fun e w' => ∃ g cp, e = .returned (.slice (some ⟨g, 0, none⟩) Nn cp) ∧ Nn ≤ cp ∧ Old w w' ∧ Own w' w.heap.size (.slice (some ⟨g, 0, none⟩) Nn cp) zs := by
  obtain ⟨wB, hwB⟩ : ∃ wB, wB = w.alloc (.cells #[.int .i64 p, .int .i64 Nn, .int .i64 r, .bool false, .slice ua Nn Nn] 153) := ⟨_, rfl⟩
  have HWB : Hid (Old w wB) := by rw [hwB]; exact (Old.refl w).alloc _
  have kc := KC wB HWB.out
  clear KC
  go_enter Tryz.func157, Tryz.ntmps157
  go_wp2_with fail
  rw [← hwB]
  refine kc.mono ?_
  rintro e w2 ⟨g, cp, rfl, hcp, g2, o2⟩
  have HG2 : Hid (Old w w2) := Old.trans HWB.out g2
  have HO2 : Hid (Own w2 w.heap.size (.slice (some ⟨g, 0, none⟩) Nn cp) zs) := o2.low HWB.out.size
  clear g2 o2
  go_wp2_with fail
  go_ret
  exact ⟨g, cp, rfl, hcp, HG2.out, HO2.out⟩
set_option maxRecDepth 100000 in
set_option maxHeartbeats 4000000 in
theorem impl_madeBack_t (p r : Int) (Nn : Nat) (zs : List Int) (ua : Option Addr) (w : World) (KC : ∀ W, Old w W → Calls Tryz.prog 189 #[.agg #[.int .i64 p, .int .i64 Nn, .int .i64 r], .slice ua Nn Nn] W fun e w' => ∃ v', e = .returned v' ∧ Old W w' ∧ Own w' W.heap.size v' zs) (hz : zs.length = Nn) (h0 : 0 < Nn) :
    Calls Tryz.prog 157 #[.agg #[.int .i64 p, .int .i64 Nn, .int .i64 r, .bool true, .slice ua Nn Nn]] w fun e w' => ∃ g cp, e = .returned (.slice (some ⟨g, 0, none⟩) Nn cp) ∧ Nn ≤ cp ∧ Old w w' ∧ Own w' w.heap.size (.slice (some ⟨g, 0, none⟩) Nn cp) zs := by
  obtain ⟨wB, hwB⟩ : ∃ wB, wB = w.alloc (.cells #[.int .i64 p, .int .i64 Nn, .int .i64 r, .bool true, .slice ua Nn Nn] 153) := ⟨_, rfl⟩
  have HWB : Hid (Old w wB) := by rw [hwB]; exact (Old.refl w).alloc _
  have kc := KC wB HWB.out
  clear KC
  go_enter Tryz.func157, Tryz.ntmps157
  go_wp2_with fail
  rw [← hwB]
  refine kc.mono ?_
  rintro e w2 ⟨v2, rfl, g2, o2⟩
  have HG2 : Hid (Old w w2) := Old.trans HWB.out g2
  obtain ⟨g, cp, e2, hcp⟩ := own_some o2 (by omega)
  rw [hz] at e2 hcp
  subst e2
  have HO2 : Hid (Own w2 w.heap.size (.slice (some ⟨g, 0, none⟩) Nn cp) zs) := o2.low HWB.out.size
  clear g2 o2
  go_wp2_with fail
  go_ret
  exact ⟨g, cp, rfl, hcp, HG2.out, HO2.out⟩
end Go.Proofs.YtfgooclnohnkmaaGreatDoor
/- Proved: rows beside their rings as things; rows of rows out of things; contracts of with and numbersOf. -/
namespace Go.Proofs.YtfgooclnohnkmaaGreatDoor
open Go.ChangeShapes Go.WideShapes Go.ChangeAt Go.RowKit
set_option linter.unusedVariables false
set_option linter.unusedSimpArgs false
/-- a thing beside its ring -/
def TR (P N R : Int) (a : Bool) (E : Thing) : Thing := fun W B cs => ∃ x, cs = [.int .i64 P, .int .i64 N, .int .i64 R, .bool a, x] ∧ E W B [x]
theorem good_TR (P N R : Int) (a : Bool) {E : Thing} (g : GoodT E) : GoodT (TR P N R a E) := by
  constructor
  · rintro W W' B cs ⟨x, e, h⟩ hf
    exact ⟨x, e, g.far h hf⟩
  · rintro W B cs ⟨x, e, h⟩ b hb
    exact g.lt h b hb
abbrev elR (N : Int) (a : Bool) (ps : List Int) (Rf : Nat → Int) (zss : List (List Int)) : Nat → Thing := fun k => TR (ps.getD k 0) N (Rf k) a (TI (zss.getD k []))
theorem good_elR (N : Int) (a : Bool) (ps : List Int) (Rf : Nat → Int) (zss : List (List Int)) (k : Nat) : GoodT (elR N a ps Rf zss k) := good_TR _ _ _ _ (good_TI _)
/-- rows beside their rings can be read at v: the rows themselves where us says -/
def RdR (w : World) (v : Value) (m : Nat) (N : Int) (a : Bool) (ps : List Int) (Rf : Nat → Int) (us : Nat → Value) : Prop :=
  ∃ b cap, v = .slice (some ⟨b, 0, none⟩) m cap ∧ b < w.heap.size ∧ ∀ k, k < m → w.cell? ⟨b, k * 5, none⟩ = some (.int .i64 (ps.getD k 0)) ∧ w.cell? ⟨b, k * 5 + 1, none⟩ = some (.int .i64 N) ∧ w.cell? ⟨b, k * 5 + 2, none⟩ = some (.int .i64 (Rf k)) ∧ w.cell? ⟨b, k * 5 + 3, none⟩ = some (.bool a) ∧ w.cell? ⟨b, k * 5 + 4, none⟩ = some (us k)
theorem RdR.old {w w' : World} {v : Value} {m : Nat} {N : Int} {a : Bool} {ps : List Int} {Rf : Nat → Int} {us : Nat → Value} (h : RdR w v m N a ps Rf us) (g : Old w w') : RdR w' v m N a ps Rf us := by
  obtain ⟨b, cap, e, hb, hc⟩ := h
  refine ⟨b, cap, e, Nat.lt_of_lt_of_le hb g.size, fun k hk => ?_⟩
  obtain ⟨h0, h1, h2, h3, h4⟩ := hc k hk
  exact ⟨(g.cell (p := ⟨b, k * 5, none⟩) hb).trans h0, (g.cell (p := ⟨b, k * 5 + 1, none⟩) hb).trans h1, (g.cell (p := ⟨b, k * 5 + 2, none⟩) hb).trans h2, (g.cell (p := ⟨b, k * 5 + 3, none⟩) hb).trans h3, (g.cell (p := ⟨b, k * 5 + 4, none⟩) hb).trans h4⟩
theorem RRs.rd {W : World} {g : Nat} {N : Int} {n : Bool} {ps : List Int} {Rf : Nat → Int} {us : Nat → Option Addr} (h : RRs W g N n ps Rf us ps.length) : RdR W (.slice (some ⟨g, 0, none⟩) ps.length ps.length) ps.length N n ps Rf (fun k => .slice (us k) N.toNat N.toNat) :=
  ⟨g, ps.length, rfl, h.lt, fun k hk => h.at k hk hk⟩
theorem Ows.rd {N : Int} {a : Bool} {ps : List Int} {Rf : Nat → Int} {zss : List (List Int)} {m : Nat} {W : World} {lo hi : Nat} {v : Value} (h0 : 0 < m) (h : Ows (TS 153 5 m (elR N a ps Rf zss)) W lo hi [v]) :
    ∃ us : Nat → Value, RdR W v m N a ps Rf us ∧ ∀ k, k < m → Row W (us k) (zss.getD k []) ∧ ∃ x c, us k = .slice x (zss.getD k []).length c := by
  obtain ⟨_, B, hT, _⟩ := h
  rcases hT with ⟨e, _⟩ | ⟨p, cap, vs, Bs, e, hc, _⟩
  · omega
  simp at e
  subst e
  have hx : ∀ k, k < m → ∃ x, cellsJ 5 vs k = [.int .i64 (ps.getD k 0), .int .i64 N, .int .i64 (Rf k), .bool a, x] ∧ TI (zss.getD k []) W (Bs k) [x] := fun k hk => hc.el k hk
  refine ⟨fun k => (cellsJ 5 vs k).getD 4 (.slice none 0 0), ⟨p, cap, rfl, ownsRow_lt hc.row, fun k hk => ?_⟩, fun k hk => ?_⟩
  · obtain ⟨x, e, hE⟩ := hx k hk
    have c0 := hc.cell k 0 hk (by omega)
    have c1 := hc.cell k 1 hk (by omega)
    have c2 := hc.cell k 2 hk (by omega)
    have c3 := hc.cell k 3 hk (by omega)
    have c4 := hc.cell k 4 hk (by omega)
    show _ ∧ _ ∧ _ ∧ _ ∧ W.cell? ⟨p, k * 5 + 4, none⟩ = some ((cellsJ 5 vs k).getD 4 (.slice none 0 0))
    rw [e] at c0 c1 c2 c3 c4 ⊢
    exact ⟨c0, c1, c2, c3, c4⟩
  · obtain ⟨x, e, hE⟩ := hx k hk
    show Row W ((cellsJ 5 vs k).getD 4 (.slice none 0 0)) _ ∧ ∃ y c, (cellsJ 5 vs k).getD 4 (.slice none 0 0) = .slice y _ c
    rw [e]
    exact ⟨hE.row, hE.slice⟩
theorem cells_five {m k : Nat} {vs : List Value} (h : vs.length = m * 5) (hk : k < m) (a b c d e : Value) : cellsJ 5 (((((vs.set (k * 5 + 0) a).set (k * 5 + 1) b).set (k * 5 + 2) c).set (k * 5 + 3) d).set (k * 5 + 4) e) k = [a, b, c, d, e] := by
  have hl := cellsJ_len (n := 5) h k hk
  rw [cellsJ_set 5 _ k 4 k e (by omega), if_pos rfl, cellsJ_set 5 _ k 3 k d (by omega), if_pos rfl, cellsJ_set 5 _ k 2 k c (by omega), if_pos rfl, cellsJ_set 5 _ k 1 k b (by omega), if_pos rfl, cellsJ_set 5 _ k 0 k a (by omega), if_pos rfl]
  match cellsJ 5 vs k, hl with
  | [_, _, _, _, _], _ => rfl
/-- one element of five cells is stored -/
theorem TSc.store5 {T : TypeId} {m k : Nat} {Es : Nat → Thing} {W : World} {p cap : Nat} {vs : List Value} {Bs : Nat → Nat → Prop} {B : Nat → Prop} (g : ∀ j, GoodT (Es j)) (h : TSc T 5 m k Es W p cap vs Bs) (hk : k < m) (a b c d e : Value)
    (he : ∀ W' : World, (∀ b, b ≠ p → W'.heap[b]? = W.heap[b]?) → Es k W' B [a, b, c, d, e]) (hp : ¬ B p) (hd : ∀ j, j < k → ∀ b, Bs j b → B b → False) :
    ∃ vs', TSc T 5 m (k + 1) Es (((((W.setCell ⟨p, k * 5, none⟩ a).setCell ⟨p, k * 5 + 1, none⟩ b).setCell ⟨p, k * 5 + 2, none⟩ c).setCell ⟨p, k * 5 + 3, none⟩ d).setCell ⟨p, k * 5 + 4, none⟩ e) p cap vs' (fun q => if q = k then B else Bs q) := by
  have h1 := h.fill g 0 (by omega) a
  have h2 := h1.fill g 1 (by omega) b
  have h3 := h2.fill g 2 (by omega) c
  have h4 := h3.fill g 3 (by omega) d
  have h5 := h4.fill g 4 (by omega) e
  refine ⟨_, h5.more (B := B) ?_ hp hd⟩
  rw [cells_five h.row.1 hk a b c d e]
  refine he _ (fun b hb => ?_)
  rw [heap_setCell_other _ _ _ _ hb, heap_setCell_other _ _ _ _ hb, heap_setCell_other _ _ _ _ hb, heap_setCell_other _ _ _ _ hb]
  exact heap_setCell_other _ _ _ _ hb
theorem cells_one {m k : Nat} {vs : List Value} (h : vs.length = m * 1) (hk : k < m) (a : Value) : cellsJ 1 (vs.set (k * 1 + 0) a) k = [a] := by
  have hl := cellsJ_len (n := 1) h k hk
  rw [cellsJ_set 1 _ k 0 k a (by omega), if_pos rfl]
  match cellsJ 1 vs k, hl with
  | [_], _ => rfl
/-- one element of one cell is stored -/
theorem TSc.store1 {T : TypeId} {m k : Nat} {Es : Nat → Thing} {W : World} {p cap : Nat} {vs : List Value} {Bs : Nat → Nat → Prop} {B : Nat → Prop} (g : ∀ j, GoodT (Es j)) (h : TSc T 1 m k Es W p cap vs Bs) (hk : k < m) (a : Value)
    (he : ∀ W' : World, (∀ b, b ≠ p → W'.heap[b]? = W.heap[b]?) → Es k W' B [a]) (hp : ¬ B p) (hd : ∀ j, j < k → ∀ b, Bs j b → B b → False) :
    ∃ vs', TSc T 1 m (k + 1) Es (W.setCell ⟨p, k, none⟩ a) p cap vs' (fun q => if q = k then B else Bs q) := by
  have h1 := h.fill g 0 (by omega) a
  rw [Nat.mul_one, Nat.add_zero] at h1
  refine ⟨_, h1.more (B := B) ?_ hp hd⟩
  have := cells_one h.row.1 hk a
  rw [Nat.mul_one, Nat.add_zero] at this
  rw [this]
  exact he _ (fun b hb => heap_setCell_other _ _ _ _ hb)
/-- rows of rows out of things -/
theorem Ows.owS {zss : List (List Int)} {m : Nat} {W : World} {lo hi : Nat} {v : Value} (hz : zss.length = m) (h : Ows (TS 23 1 m (fun k => TI (zss.getD k []))) W lo hi [v]) : OwS zss W lo hi v := by
  obtain ⟨hh, B, hT, hB⟩ := h
  rcases hT with ⟨e, e1, _⟩ | ⟨p, cap, vs, Bs, e, hc, hb⟩
  · simp at e1
    exact ⟨hh, .inl ⟨e1, List.length_eq_zero_iff.1 (hz.trans e)⟩⟩
  simp at e
  subst e
  have hp := hB p ((hb p).2 (.inl rfl))
  have hcap : m ≤ cap := by
    rcases hc.row.2 with ⟨hn, _⟩ | ⟨p', cap', cur, e', _, _, h3, _⟩
    · cases hn
    · simp only [Value.slice.injEq] at e'
      omega
  have hvl : vs.length = m := by have := hc.row.1; omega
  have hcell : ∀ j, j < m → ∃ x, vs[j]? = some x ∧ TI (zss.getD j []) W (Bs j) [x] := fun j hj => by
    have h1 := hc.el j hj
    have h2 := cellsJ_len (n := 1) hc.row.1 j hj
    have h3 := cellsJ_get 1 vs j 0 (by omega)
    rw [Nat.mul_one, Nat.add_zero] at h3
    match hcs : cellsJ 1 vs j, h2 with
    | [x], _ =>
      rw [hcs] at h1 h3
      exact ⟨x, h3.symm, h1⟩
  refine ⟨hh, .inr ⟨p, cap, vs, by rw [hz], by omega, hp.1, hp.2, ?_, by omega, fun j hj => ?_, fun i j x y b hij hx hy hbx hby => ?_⟩⟩
  · rw [hz]
    refine ⟨hc.row.1, ?_⟩
    rcases hc.row.2 with ⟨hn, _⟩ | ⟨p', cap', cur, e', _, rest⟩
    · cases hn
    · simp only [Value.slice.injEq, Option.some.injEq, Addr.mk.injEq, true_and, and_true] at e'
      obtain ⟨rfl, rfl⟩ := e'
      exact .inr ⟨p, cap, cur, rfl, hp.1, rest⟩
  · rw [hz] at hj
    obtain ⟨x, e, hE⟩ := hcell j hj
    obtain ⟨a, c, rfl⟩ := hE.slice
    have hbl := hE.blocks
    have ho := hE.own (lo := lo) (fun b hb' => (hB b ((hb b).2 (.inr ⟨j, hj, hb'⟩))).1)
    refine ⟨a, c, e, ?_, ⟨ho, hh, fun b hb' => (hB b ((hb b).2 (.inr ⟨j, hj, (hbl b).2 hb'⟩))).2⟩, fun b hb' e2 => ?_⟩
    · obtain ⟨a2, c2, e2, _, f2, _⟩ := hE
      simp at e2
      rw [e2.2]
      exact f2
    · subst e2
      exact hc.np j hj ((hbl b).2 hb')
  · have hi' : i < m := by have := (List.getElem?_eq_some_iff.1 hx).1; omega
    have hj' : j < m := by have := (List.getElem?_eq_some_iff.1 hy).1; omega
    obtain ⟨x2, e, hE⟩ := hcell i hi'
    obtain ⟨y2, e2, hE2⟩ := hcell j hj'
    rw [e] at hx
    rw [e2] at hy
    obtain rfl := Option.some.inj hx
    obtain rfl := Option.some.inj hy
    exact hc.dis i j hi' hj' (by omega) b ((hE.blocks b).2 hbx) ((hE2.blocks b).2 hby)
theorem with_any (P N R : Int) (a : Bool) (x y : Option Addr) (n c n' c' : Nat) (w : World) :
    Calls Tryz.prog 164 #[.agg #[.int .i64 P, .int .i64 N, .int .i64 R, .bool a, .slice x n c], .slice y n' c'] w fun e w' => e = .returned (.agg #[.int .i64 P, .int .i64 N, .int .i64 R, .bool a, .slice y n' c']) ∧ Old w w' := by
  go_enter Tryz.func164, Tryz.ntmps164
  go_wp2_with fail
  refine bodyPost_ret (v := .agg #[.int .i64 P, .int .i64 N, .int .i64 R, .bool a, .slice y n' c']) (by simp [results, Tryz.results164, go_sem]) rfl ⟨rfl, ?_⟩
  exact ((Old.refl w).alloc _).alloc _
set_option maxRecDepth 100000 in
set_option maxHeartbeats 4000000 in
theorem numbersOf_any (N : Int) (a : Bool) (ps : List Int) (Rf : Nat → Int) (zss : List (List Int)) (m lo : Nat) (v : Value) (w : World) (hm : 1 ≤ m ∧ m ≤ 1000) (hz : zss.length = m) (h : Ows (TS 153 5 m (elR N a ps Rf zss)) w lo w.heap.size [v]) (hlo : lo ≤ w.heap.size) :
    Calls Tryz.prog 111 #[v] w fun e w' => e = .returned (.slice (some ⟨w.heap.size, 0, none⟩) m m) ∧ Old w w' ∧ OwS zss w' lo w'.heap.size (.slice (some ⟨w.heap.size, 0, none⟩) m m) := by
  obtain ⟨j0, ji, jz0, jz1, jz2⟩ := info_parts Tryz.infoInts
  obtain ⟨_, B, hT, hB⟩ := h
  rcases hT with ⟨e, _⟩ | ⟨p, cap, vs0, Bs, e, hc, hb⟩
  · omega
  simp at e
  subst e
  have HC : Hid (∀ k, k < m → ∃ x y c, (w.cell? ⟨p, k * 5, none⟩ = some (.int .i64 (ps.getD k 0)) ∧ w.cell? ⟨p, k * 5 + 1, none⟩ = some (.int .i64 N) ∧ w.cell? ⟨p, k * 5 + 2, none⟩ = some (.int .i64 (Rf k)) ∧ w.cell? ⟨p, k * 5 + 3, none⟩ = some (.bool a) ∧ w.cell? ⟨p, k * 5 + 4, none⟩ = some x) ∧ x = .slice y (zss.getD k []).length c ∧ TI (zss.getD k []) w (Bs k) [x]) := fun k hk => by
    obtain ⟨x, e, hE⟩ := hc.el k hk
    obtain ⟨y, c, ex⟩ := hE.slice
    have c0 := hc.cell k 0 hk (by omega)
    have c1 := hc.cell k 1 hk (by omega)
    have c2 := hc.cell k 2 hk (by omega)
    have c3 := hc.cell k 3 hk (by omega)
    have c4 := hc.cell k 4 hk (by omega)
    rw [e] at c0 c1 c2 c3 c4
    exact ⟨x, y, c, ⟨c0, c1, c2, c3, c4⟩, ex, hE⟩
  have hpl : p < w.heap.size := ownsRow_lt hc.row
  have HBL : Hid (∀ k b, k < m → Bs k b → lo ≤ b ∧ b < w.heap.size) := fun k b hk h => hB b ((hb b).2 (.inr ⟨k, hk, h⟩))
  have HDI : Hid (∀ i j, i < m → j < m → i ≠ j → ∀ b, Bs i b → Bs j b → False) := hc.dis
  have HFI : Hid (∀ w' v, Ows (TS 23 1 m (fun k => TI (zss.getD k []))) w' lo w'.heap.size [v] → OwS zss w' lo w'.heap.size v) := fun w' v h => h.owS hz
  clear hc hb hB hz
  go_enter Tryz.func111, Tryz.ntmps111
  go_wp2_with (at_make; refine wpList_make_full _ rfl _ _ 48 rfl 0 23 j0 (.slice none 0 0) 1 Tryz.underlying48 ji jz0 jz1 .i64 .i64 _ _ m rfl rfl rfl rfl (by rw [jz2]; omega) (by unfold maxLen; omega) (Nat.zero_le _) ?_; intro w1 hown hgrow)
  have HO : Hid (TSc 23 1 m 0 (fun k => TI (zss.getD k [])) w1 w.heap.size m _ (fun _ _ => False)) := TSc.start hown
  have HG : Hid (Old w w1) := Below.grown (Below.refl _ _) hgrow (Nat.le_refl _) (fun _ h => by cases h)
  clear hown hgrow
  go_loopw [11, 4, 5] (fun i _ _ W => ∃ (k : Nat) (vs : List Value) (Ds : Nat → Nat → Prop), k ≤ m ∧ i = .int .i64 k ∧ Hid (TSc 23 1 m k (fun k => TI (zss.getD k [])) W w.heap.size m vs Ds) ∧ Hid (∀ j, j < k → Ds j = Bs j) ∧ Hid (Old w W)) (fun i _ _ _ => m - (intOf i).toNat)
  case atStart => exact ⟨0, _, _, by omega, rfl, HO, (fun j hj => by omega), HG⟩
  case round =>
    obtain ⟨k, vs, Ds, hk, rfl, H1, HD, HG1⟩ := hrel
    clear HO HG
    by_cases hlt : k < m
    · have d1 : decide ((k : Int) < (m : Int)) = true := by simp; omega
      obtain ⟨x, y, c, ⟨c0, c1, c2, c3, c4⟩, rfl, hE⟩ := HC.out k hlt
      have q0 := (HG1.out.cell (p := ⟨p, k * 5, none⟩) hpl).trans c0
      have q1 := (HG1.out.cell (p := ⟨p, k * 5 + 1, none⟩) hpl).trans c1
      have q2 := (HG1.out.cell (p := ⟨p, k * 5 + 2, none⟩) hpl).trans c2
      have q3 := (HG1.out.cell (p := ⟨p, k * 5 + 3, none⟩) hpl).trans c3
      have q4 := (HG1.out.cell (p := ⟨p, k * 5 + 4, none⟩) hpl).trans c4
      have hsr : w.heap.size < wr.heap.size := ownsRow_lt H1.out.row
      have hE1 : TI (zss.getD k []) wr (Bs k) [.slice y (zss.getD k []).length c] := (good_TI _).far hE (fun b hb => HG1.out.block b (HBL.out k b hlt hb).2)
      have hst : ∃ vs', TSc 23 1 m (k + 1) (fun k => TI (zss.getD k [])) (wr.setCell ⟨w.heap.size, k, none⟩ (.slice y (zss.getD k []).length c)) w.heap.size m vs' (fun q => if q = k then Bs k else Ds q) :=
        H1.out.store1 (fun j => good_TI _) hlt _ (B := Bs k) (fun W' hW' => (good_TI _).far hE1 (fun b hb => hW' b (by have := (HBL.out k b hlt hb).2; omega))) (fun hb => by have := (HBL.out k _ hlt hb).2; omega) (fun j hj b h1 h2 => by
          rw [HD.out j hj] at h1
          exact HDI.out j k (by omega) hlt (by omega) b h1 h2)
      obtain ⟨vs', hst⟩ := hst
      have HST : Hid (∀ o : Obj, TSc 23 1 m (k + 1) (fun k => TI (zss.getD k [])) ((wr.setCell ⟨w.heap.size, k, none⟩ (.slice y (zss.getD k []).length c)).alloc o) w.heap.size m vs' (fun q => if q = k then Bs k else Ds q)) := fun o => hst.old (fun j => by
        by_cases e : j = k
        · exact good_TI _
        · exact good_TI _) ((Old.refl _).alloc o)
      have HND : Hid (∀ j, j < k + 1 → (fun q => if q = k then Bs k else Ds q) j = Bs j) := fun j hj => by
        by_cases e : j = k
        · simp only [e, if_true]
        · simp only [e, if_false]
          exact HD.out j (by omega)
      obtain ⟨z, hz⟩ : ∃ z, wr.cell? ⟨w.heap.size, k, none⟩ = some z := by
        have h5 := H1.out.cell k 0 hlt (by omega)
        rw [Nat.mul_one, Nat.add_zero] at h5
        have h6 := cellsJ_len H1.out.row.1 k hlt
        exact ⟨_, h5.trans (List.getElem?_eq_getElem (by omega))⟩
      have hfz : wr.frozen? ⟨w.heap.size, k, none⟩ = false := H1.out.frozen _
      clear c0 c1 c2 c3 c4 hE hE1 hst H1 HD
      generalize ps.getD k 0 = P at *
      generalize Rf k = R at *
      obtain ⟨n, hn⟩ : ∃ n, (zss.getD k []).length = n := ⟨_, rfl⟩
      rw [hn] at HST q4
      clear hn
      have HN : Hid (TSc 23 1 m (k + 1) (fun k => TI (zss.getD k [])) ((wr.setCell ⟨w.heap.size, k, none⟩ (.slice y n c)).alloc (.cells #[.int .i64 P, .int .i64 N, .int .i64 R, .bool a, .slice y n c] 153)) w.heap.size m vs' (fun q => if q = k then Bs k else Ds q)) := HST.out _
      have HG2 : Hid (Old w ((wr.setCell ⟨w.heap.size, k, none⟩ (.slice y n c)).alloc (.cells #[.int .i64 P, .int .i64 N, .int .i64 R, .bool a, .slice y n c] 153))) := (HG1.out.own (p := ⟨w.heap.size, k, none⟩) (Nat.le_refl _) _).alloc _
      clear HST
      go_wp2_with fail
      exact ⟨⟨k + 1, vs', _, by omega, by go_num, HN, HND, HG2⟩, by simp [intOf]; omega⟩
    · have d1 : decide ((k : Int) < (m : Int)) = false := by simp; omega
      obtain rfl : k = m := by omega
      have HE : Hid (OwS zss wr lo wr.heap.size (.slice (some ⟨w.heap.size, 0, none⟩) k k)) := HFI.out _ _ (H1.out.done (fun j => good_TI _) hlo (fun j b hj hb => by rw [HD.out j hj] at hb; exact (HBL.out j b hj hb).1))
      go_wp2_with fail
      go_ret
      exact ⟨rfl, HG1.out, HE.out⟩
end Go.Proofs.YtfgooclnohnkmaaGreatDoor
/- Proved: the program's changedRows with madeBack. -/
namespace Go.Proofs.YtfgooclnohnkmaaGreatDoor
open Go.ChangeShapes Go.WideShapes Go.ChangeAt Go.RowKit
set_option linter.unusedVariables false
set_option linter.unusedSimpArgs false
set_option maxRecDepth 100000 in
set_option maxHeartbeats 8000000 in
theorem changed_back (N : Int) (a : Bool) (ps : List Int) (Rf : Nat → Int) (us : Nat → Value) (v : Value) (m : Nat) (w : World) (hr : RdR w v m N a ps Rf us) (hus : ∀ k, k < m → ∃ x n c, us k = .slice x n c) (hm : 1 ≤ m ∧ m ≤ 1000) (zss : List (List Int))
    (cj : ∀ k, k < m → ∀ W, Old w W → Calls Tryz.prog 157 #[.agg #[.int .i64 (ps.getD k 0), .int .i64 N, .int .i64 (Rf k), .bool a, us k]] W fun e w' => ∃ v', e = .returned v' ∧ Old W w' ∧ Own w' W.heap.size v' (zss.getD k [])) :
    Calls Tryz.prog 188 #[v, .func (.func 157) #[] #[]] w fun e w' => e = .returned (.slice (some ⟨w.heap.size, 0, none⟩) m m) ∧ Old w w' ∧ Ows (TS 153 5 m (elR N a ps Rf zss)) w' w.heap.size w'.heap.size [.slice (some ⟨w.heap.size, 0, none⟩) m m] := by
  obtain ⟨i0, hi, hz0, hz1, hz2⟩ := info_parts Tryz.infoRingRow
  obtain ⟨b, cap, rfl, hb, hc⟩ := hr
  have HC : Hid (∀ k, k < m → w.cell? ⟨b, k * 5, none⟩ = some (.int .i64 (ps.getD k 0)) ∧ w.cell? ⟨b, k * 5 + 1, none⟩ = some (.int .i64 N) ∧ w.cell? ⟨b, k * 5 + 2, none⟩ = some (.int .i64 (Rf k)) ∧ w.cell? ⟨b, k * 5 + 3, none⟩ = some (.bool a) ∧ w.cell? ⟨b, k * 5 + 4, none⟩ = some (us k)) := hc
  have HUS : Hid (∀ k, k < m → ∃ x n c, us k = .slice x n c) := hus
  have HCJ : Hid (∀ k, k < m → ∀ W, Old w W → Calls Tryz.prog 157 #[.agg #[.int .i64 (ps.getD k 0), .int .i64 N, .int .i64 (Rf k), .bool a, us k]] W fun e w' => ∃ v', e = .returned v' ∧ Old W w' ∧ Own w' W.heap.size v' (zss.getD k [])) := cj
  have HEL : Hid (∀ k, elR N a ps Rf zss k = TR (ps.getD k 0) N (Rf k) a (TI (zss.getD k []))) := fun k => rfl
  have HGD : Hid (∀ k, GoodT (elR N a ps Rf zss k)) := good_elR N a ps Rf zss
  generalize elR N a ps Rf zss = Es at *
  clear hc hus cj
  go_enter Tryz.func188, Tryz.ntmps188
  go_wp2_with (at_make; refine wpList_make_full _ rfl _ _ 139 rfl 0 153 i0 (.agg #[.int .i64 0, .int .i64 0, .int .i64 0, .bool false, .slice none 0 0]) 5 Tryz.underlying139 hi hz0 hz1 .i64 .i64 _ _ m rfl rfl rfl rfl (by rw [hz2]; omega) (by unfold maxLen; omega) (Nat.zero_le _) ?_; intro w1 hown hgrow)
  have HO : Hid (TSc 153 5 m 0 Es w1 w.heap.size m _ (fun _ _ => False)) := TSc.start hown
  have HG : Hid (Old w w1) := Below.grown (Below.refl _ _) hgrow (Nat.le_refl _) (fun _ h => by cases h)
  clear hown hgrow
  go_loopw [13, 6, 7] (fun i _ _ W => ∃ (k : Nat) (vs : List Value) (Bs : Nat → Nat → Prop), k ≤ m ∧ i = .int .i64 k ∧ Hid (TSc 153 5 m k Es W w.heap.size m vs Bs) ∧ Hid (∀ j b, j < k → Bs j b → w.heap.size < b) ∧ Hid (Old w W)) (fun i _ _ _ => m - (intOf i).toNat)
  case atStart => exact ⟨0, _, _, by omega, rfl, HO, (fun j b hj => by omega), HG⟩
  case round =>
    obtain ⟨k, vs, Bs, hk, rfl, H1, HB, HG1⟩ := hrel
    clear HO HG
    by_cases hlt : k < m
    · have d1 : decide ((k : Int) < (m : Int)) = true := by simp; omega
      have ilt : (k : Int) < (m : Int) := by omega
      obtain ⟨c0, c1, c2, c3, c4⟩ := HC.out k hlt
      obtain ⟨xu, nu, cu, eu⟩ := HUS.out k hlt
      have cj := HCJ.out k hlt
      rw [eu] at c4 cj
      have q0 := (HG1.out.cell (p := ⟨b, k * 5, none⟩) hb).trans c0
      have q1 := (HG1.out.cell (p := ⟨b, k * 5 + 1, none⟩) hb).trans c1
      have q2 := (HG1.out.cell (p := ⟨b, k * 5 + 2, none⟩) hb).trans c2
      have q3 := (HG1.out.cell (p := ⟨b, k * 5 + 3, none⟩) hb).trans c3
      have q4 := (HG1.out.cell (p := ⟨b, k * 5 + 4, none⟩) hb).trans c4
      have hsr : w.heap.size < wr.heap.size := ownsRow_lt H1.out.row
      have HEK : Hid (Es k = TR (ps.getD k 0) N (Rf k) a (TI (zss.getD k []))) := HEL.out k
      clear c0 c1 c2 c3 c4 eu
      generalize ps.getD k 0 = P at *
      generalize Rf k = R at *
      generalize zss.getD k [] = zs at *
      have HAS5 : Hid (∀ W', Old (wr.alloc (.cells #[.int .i64 P, .int .i64 N, .int .i64 R, .bool a, .slice xu nu cu] 153)) W' → (W'.cell? ⟨wr.heap.size, 0, none⟩ = some (.int .i64 P) ∧ W'.cell? ⟨wr.heap.size, 1, none⟩ = some (.int .i64 N) ∧ W'.cell? ⟨wr.heap.size, 2, none⟩ = some (.int .i64 R) ∧ W'.cell? ⟨wr.heap.size, 3, none⟩ = some (.bool a) ∧ W'.cell? ⟨wr.heap.size, 4, none⟩ = some (.slice xu nu cu))) := fun W' q => by
        have q' := Old.trans ((Old.refl wr).alloc _) q
        exact ⟨(q.cell (p := ⟨wr.heap.size, 0, none⟩) (by simp)).trans (cell_at _ _ _ _ _ rfl), (q.cell (p := ⟨wr.heap.size, 1, none⟩) (by simp)).trans (cell_at _ _ _ _ _ rfl), (q.cell (p := ⟨wr.heap.size, 2, none⟩) (by simp)).trans (cell_at _ _ _ _ _ rfl), (q.cell (p := ⟨wr.heap.size, 3, none⟩) (by simp)).trans (cell_at _ _ _ _ _ rfl), (q.cell (p := ⟨wr.heap.size, 4, none⟩) (by simp)).trans (cell_at _ _ _ _ _ rfl)⟩
      have HAS6 : Hid (∀ W' y0 y1 y2 y3 y4, Old (wr.alloc (.cells #[.int .i64 P, .int .i64 N, .int .i64 R, .bool a, .slice xu nu cu] 153)) W' → ((fun W' => W'.cell? ⟨wr.heap.size, 0, none⟩ = some (.int .i64 P) ∧ W'.cell? ⟨wr.heap.size, 1, none⟩ = some (.int .i64 N) ∧ W'.cell? ⟨wr.heap.size, 2, none⟩ = some (.int .i64 R) ∧ W'.cell? ⟨wr.heap.size, 3, none⟩ = some (.bool a) ∧ W'.cell? ⟨wr.heap.size, 4, none⟩ = some (.slice xu nu cu)) (((((W'.setCell ⟨w.heap.size, k * 5, none⟩ y0).setCell ⟨w.heap.size, k * 5 + 1, none⟩ y1).setCell ⟨w.heap.size, k * 5 + 2, none⟩ y2).setCell ⟨w.heap.size, k * 5 + 3, none⟩ y3).setCell ⟨w.heap.size, k * 5 + 4, none⟩ y4))) := fun W' y0 y1 y2 y3 y4 q => by
        obtain ⟨s0, s1, s2, s3, s4⟩ := HAS5.out W' q
        have key : ∀ (bb j : Nat) (z : Value), bb ≠ w.heap.size → W'.cell? ⟨bb, j, none⟩ = some z → (((((W'.setCell ⟨w.heap.size, k * 5, none⟩ y0).setCell ⟨w.heap.size, k * 5 + 1, none⟩ y1).setCell ⟨w.heap.size, k * 5 + 2, none⟩ y2).setCell ⟨w.heap.size, k * 5 + 3, none⟩ y3).setCell ⟨w.heap.size, k * 5 + 4, none⟩ y4).cell? ⟨bb, j, none⟩ = some z := fun bb j z hb hz => by
          rw [cellO _ _ _ _ hb, cellO _ _ _ _ hb, cellO _ _ _ _ hb, cellO _ _ _ _ hb, cellO _ _ _ _ hb]
          exact hz
        exact ⟨key _ _ _ (by omega) s0, key _ _ _ (by omega) s1, key _ _ _ (by omega) s2, key _ _ _ (by omega) s3, key _ _ _ (by omega) s4⟩
      have HGA : Hid (Old w (wr.alloc (.cells #[.int .i64 P, .int .i64 N, .int .i64 R, .bool a, .slice xu nu cu] 153))) := HG1.out.alloc _
      have HX : Hid (∀ w6 y n c Bz, Old (wr.alloc (.cells #[.int .i64 P, .int .i64 N, .int .i64 R, .bool a, .slice xu nu cu] 153)) w6 → TI zs w6 Bz [.slice y n c] → (∀ b, Bz b → wr.heap.size + 1 ≤ b) → (∃ vs', TSc 153 5 m (k + 1) Es (((((w6.setCell ⟨w.heap.size, k * 5, none⟩ (.int .i64 P)).setCell ⟨w.heap.size, k * 5 + 1, none⟩ (.int .i64 N)).setCell ⟨w.heap.size, k * 5 + 2, none⟩ (.int .i64 R)).setCell ⟨w.heap.size, k * 5 + 3, none⟩ (.bool a)).setCell ⟨w.heap.size, k * 5 + 4, none⟩ (.slice y n c)) w.heap.size m vs' (fun q => if q = k then Bz else Bs q)) ∧ (∀ j b, j < k + 1 → (fun q => if q = k then Bz else Bs q) j b → w.heap.size < b) ∧ Old w (((((w6.setCell ⟨w.heap.size, k * 5, none⟩ (.int .i64 P)).setCell ⟨w.heap.size, k * 5 + 1, none⟩ (.int .i64 N)).setCell ⟨w.heap.size, k * 5 + 2, none⟩ (.int .i64 R)).setCell ⟨w.heap.size, k * 5 + 3, none⟩ (.bool a)).setCell ⟨w.heap.size, k * 5 + 4, none⟩ (.slice y n c))) := fun w6 y n c Bz g6 hTI hlo => by
        have g7 := Old.trans ((Old.refl wr).alloc _) g6
        refine ⟨(H1.out.old HGD.out g7).store5 HGD.out hlt _ _ _ _ _ (B := Bz) (fun W' hW' => ?_) (fun hb => by have := hlo _ hb; omega) (fun j hj b h1 h2 => ?_), fun j b hj hb => ?_, ?_⟩
        · rw [HEK.out]
          exact ⟨_, rfl, (good_TI zs).far hTI (fun b hb => hW' b (by have := hlo b hb; omega))⟩
        · have h4 := H1.out.lt HGD.out j b hj h1
          have := hlo b h2
          omega
        · by_cases e : j = k
          · simp only [e, if_true] at hb
            have := hlo b hb
            omega
          · simp only [e, if_false] at hb
            exact HB.out j b (by omega) hb
        · exact (((((Old.trans HG1.out g7).own (p := ⟨w.heap.size, k * 5, none⟩) (Nat.le_refl _) _).own (p := ⟨w.heap.size, k * 5 + 1, none⟩) (Nat.le_refl _) _).own (p := ⟨w.heap.size, k * 5 + 2, none⟩) (Nat.le_refl _) _).own (p := ⟨w.heap.size, k * 5 + 3, none⟩) (Nat.le_refl _) _).own (p := ⟨w.heap.size, k * 5 + 4, none⟩) (Nat.le_refl _) _
      have HCE : Hid (∀ w6, Old (wr.alloc (.cells #[.int .i64 P, .int .i64 N, .int .i64 R, .bool a, .slice xu nu cu] 153)) w6 → ∀ i, i < 5 → (∃ z, w6.cell? ⟨w.heap.size, k * 5 + i, none⟩ = some z) ∧ w6.frozen? ⟨w.heap.size, k * 5 + i, none⟩ = false) := fun w6 g6 i hi5 => by
        have H2 := H1.out.old HGD.out (Old.trans ((Old.refl wr).alloc _) g6)
        have h5 := H2.cell k i hlt hi5
        have h6 := cellsJ_len H2.row.1 k hlt
        exact ⟨⟨_, h5.trans (List.getElem?_eq_getElem (by omega))⟩, H2.frozen _⟩
      clear H1 HB HEK
      go_wp2_with fail
      go_region_held3 (fun W' => W'.cell? ⟨wr.heap.size, 0, none⟩ = some (.int .i64 P) ∧ W'.cell? ⟨wr.heap.size, 1, none⟩ = some (.int .i64 N) ∧ W'.cell? ⟨wr.heap.size, 2, none⟩ = some (.int .i64 R) ∧ W'.cell? ⟨wr.heap.size, 3, none⟩ = some (.bool a) ∧ W'.cell? ⟨wr.heap.size, 4, none⟩ = some (.slice xu nu cu)) (first | with_reducible exact HAS5.out _ Q6.out | with_reducible exact HAS5.out _ Q5.out | with_reducible exact HAS5.out _ (Below.drew (Old.refl _)) | with_reducible exact HAS6.out _ _ _ _ _ _ Q6.out | with_reducible exact HAS5.out _ (Old.refl _)) (first
        | (go_at_call 157; refine (cj _ (Below.drew HGA.out)).mono ?_; rintro e w5 ⟨v5, rfl, q5, o5⟩; obtain ⟨x5, c5, rfl⟩ := (Own.row o5).slice; have Q5 : Hid (Old (wr.alloc (.cells #[.int .i64 P, .int .i64 N, .int .i64 R, .bool a, .slice xu nu cu] 153)) w5) := Old.trans (Below.drew (Old.refl _)) q5; have O5 : Hid (Own w5 (wr.heap.size + 1) (.slice x5 zs.length c5) zs) := (by simp at o5; exact o5); clear q5 o5)
        | (go_at_call 164; refine (with_any _ _ _ _ _ _ _ _ _ _ _).mono ?_; rintro e w6 ⟨rfl, q6⟩; have Q6 : Hid (Old (wr.alloc (.cells #[.int .i64 P, .int .i64 N, .int .i64 R, .bool a, .slice xu nu cu] 153)) w6) := Old.trans Q5.out q6; have O6 : Hid (Own w6 (wr.heap.size + 1) (.slice x5 zs.length c5) zs) := O5.out.old q6; clear q6; obtain ⟨⟨z0, hz0⟩, hf0⟩ := HCE.out w6 Q6.out 0 (by omega); obtain ⟨⟨z1, hz1⟩, hf1⟩ := HCE.out w6 Q6.out 1 (by omega); obtain ⟨⟨z2, hz2⟩, hf2⟩ := HCE.out w6 Q6.out 2 (by omega); obtain ⟨⟨z3, hz3⟩, hf3⟩ := HCE.out w6 Q6.out 3 (by omega); obtain ⟨⟨z4, hz4⟩, hf4⟩ := HCE.out w6 Q6.out 4 (by omega); rw [Nat.add_zero] at hz0 hf0)
        | fail)
      all_goals
        obtain ⟨Bz, hTI, hlo⟩ := TI.of O6.out
        obtain ⟨⟨vs', n1⟩, n2, n3⟩ := HX.out w6 x5 zs.length c5 Bz Q6.out hTI hlo
        have N1 : Hid (TSc 153 5 m (k + 1) Es (((((w6.setCell ⟨w.heap.size, k * 5, none⟩ (.int .i64 P)).setCell ⟨w.heap.size, k * 5 + 1, none⟩ (.int .i64 N)).setCell ⟨w.heap.size, k * 5 + 2, none⟩ (.int .i64 R)).setCell ⟨w.heap.size, k * 5 + 3, none⟩ (.bool a)).setCell ⟨w.heap.size, k * 5 + 4, none⟩ (.slice x5 zs.length c5)) w.heap.size m vs' (fun q => if q = k then Bz else Bs q)) := n1
        have N2 : Hid (∀ j b, j < k + 1 → (fun q => if q = k then Bz else Bs q) j b → w.heap.size < b) := n2
        have N3 : Hid (Old w (((((w6.setCell ⟨w.heap.size, k * 5, none⟩ (.int .i64 P)).setCell ⟨w.heap.size, k * 5 + 1, none⟩ (.int .i64 N)).setCell ⟨w.heap.size, k * 5 + 2, none⟩ (.int .i64 R)).setCell ⟨w.heap.size, k * 5 + 3, none⟩ (.bool a)).setCell ⟨w.heap.size, k * 5 + 4, none⟩ (.slice x5 zs.length c5))) := n3
        clear n1 n2 n3 hTI hlo HX
        go_wp2_with fail
        exact ⟨⟨k + 1, vs', _, by omega, by go_num, N1, N2, N3⟩, by simp [intOf]; omega⟩
    · have d1 : decide ((k : Int) < (m : Int)) = false := by simp; omega
      obtain rfl : k = m := by omega
      have HE : Hid (Ows (TS 153 5 k Es) wr w.heap.size wr.heap.size [.slice (some ⟨w.heap.size, 0, none⟩) k k]) := H1.out.done HGD.out (Nat.le_refl _) (fun j b hj hb => Nat.le_of_lt (HB.out j b hj hb))
      go_wp2_with fail
      go_ret
      exact ⟨rfl, HG1.out, HE.out⟩
end Go.Proofs.YtfgooclnohnkmaaGreatDoor
/- Proved: the program's eachRow. -/
namespace Go.Proofs.YtfgooclnohnkmaaGreatDoor
open Go.ChangeShapes Go.WideShapes Go.ChangeAt Go.RowKit
open M1
set_option linter.unusedVariables false
set_option linter.unusedSimpArgs false
set_option maxRecDepth 100000 in
set_option maxHeartbeats 4000000 in
theorem eachRow_back_no (N : Int) (ps : List Int) (a ah : Bool) (xss : List (List Int)) (Rf : Nat → Int) (us1 : Nat → Option Addr) (v : Value) (a1 : Option Addr) (cap1 : Nat) (w : World) (hP : PrsW w) (hT : TabW w) (hv : Row w v ps)
    (c1 : ∀ W, PrsW W → TabW W → Old w W → Calls Tryz.prog 102 #[.agg #[.int .i64 N, v], .agg #[.bool a, .slice a1 xss.length cap1]] W fun e w' => Old W w' ∧ ((grB N ps xss = false ∧ e = .returned (.tuple #[.slice none 0 0, .bool false])) ∨ (grB N ps xss = true ∧ ∃ g, W.heap.size ≤ g ∧ e = .returned (.tuple #[.slice (some ⟨g, 0, none⟩) ps.length ps.length, .bool true]) ∧ RRs w' g N a ps Rf us1 ps.length))) (hno : grB N ps xss = false) :
    Calls Tryz.prog 156 #[.agg #[.int .i64 N, v], .agg #[.bool a, .slice a1 xss.length cap1], .bool ah, .func (.func 157) #[] #[]] w (Rs w false [] false) := by
  have HP : Hid (PrsW w) := hP
  have HT : Hid (TabW w) := hT
  obtain ⟨a0, cap0, ev⟩ := hv.slice
  subst ev
  have HA : Hid (Old w (((w.alloc (.cells #[.int .i64 N, .slice a0 ps.length cap0] 56)).alloc (.cells #[.bool a, .slice a1 xss.length cap1] 58)).alloc (.cells #[.bool false, .slice none 0 0] 58))) := (((Old.refl w).alloc _).alloc _).alloc _
  have HS : Hid (StW (((w.alloc (.cells #[.int .i64 N, .slice a0 ps.length cap0] 56)).alloc (.cells #[.bool a, .slice a1 xss.length cap1] 58)).alloc (.cells #[.bool false, .slice none 0 0] 58)) (w.heap.size + 1 + 1) (.bool false) (.slice none 0 0) 58) := by
    have := StW.new ((w.alloc (.cells #[.int .i64 N, .slice a0 ps.length cap0] 56)).alloc (.cells #[.bool a, .slice a1 xss.length cap1] 58)) (.bool false) (.slice none 0 0) 58
    simp at this
    exact this
  clear hv hP hT
  go_enter Tryz.func156, Tryz.ntmps156
  go_wp2_with fail
  refine (c1 _ (HP.out.old HA.out) (HT.out.old HA.out) HA.out).mono ?_
  rintro e w2 ⟨g1, hl⟩
  have HG2 : Hid (Old w w2) := Old.trans HA.out g1
  have S2 : Hid (StW w2 (w.heap.size + 1 + 1) (.bool false) (.slice none 0 0) 58) := HS.out.old g1
  have hs2 : w.heap.size + 1 + 1 < w2.heap.size := S2.out.lt
  clear g1
  rcases hl with ⟨hB, rfl⟩ | ⟨hB, g, hg, rfl, hrr⟩
  · have q0 := S2.out.c0
    have q1 := S2.out.c1
    have f0 := S2.out.f0
    have f1 := S2.out.f1
    clear hB hno
    go_wp2_with fail
    refine bodyPost_ret (ret_rb (x := .bool false) (y := .slice none 0 0) (z := .bool false) Tryz.results156 _ _ rfl rfl (st_put2 S2.out _ _)) rfl ⟨_, rfl, ?_, XR.nil _ _ _ _ (Nat.le_refl _)⟩
    exact (HG2.out.own (p := ⟨w.heap.size + 1 + 1, 0, none⟩) (by simp; omega) _).own (p := ⟨w.heap.size + 1 + 1, 1, none⟩) (by simp; omega) _
  · rw [hno] at hB
    cases hB
set_option maxRecDepth 100000 in
set_option maxHeartbeats 8000000 in
theorem eachRow_back_yes (Nn : Nat) (ps : List Int) (a ah : Bool) (xss : List (List Int)) (Rf : Nat → Int) (us1 : Nat → Option Addr) (v : Value) (a1 : Option Addr) (cap1 : Nat) (w : World) (hP : PrsW w) (hT : TabW w) (hv : Row w v ps)
    (c1 : ∀ W, PrsW W → TabW W → Old w W → Calls Tryz.prog 102 #[.agg #[.int .i64 Nn, v], .agg #[.bool a, .slice a1 xss.length cap1]] W fun e w' => Old W w' ∧ ((grB Nn ps xss = false ∧ e = .returned (.tuple #[.slice none 0 0, .bool false])) ∨ (grB Nn ps xss = true ∧ ∃ g, W.heap.size ≤ g ∧ e = .returned (.tuple #[.slice (some ⟨g, 0, none⟩) ps.length ps.length, .bool true]) ∧ RRs w' g Nn a ps Rf us1 ps.length))) (hx : grB Nn ps xss = true) (zss : List (List Int)) (hzl : zss.length = ps.length) (hps : ps.length ≤ 6)
    (cj : ∀ k, k < ps.length → (zss.getD k []).length = Nn ∧ ∀ W, Old w W → Calls Tryz.prog 157 #[.agg #[.int .i64 (ps.getD k 0), .int .i64 Nn, .int .i64 (Rf k), .bool a, .slice (us1 k) Nn Nn]] W fun e w' => ∃ g cp, e = .returned (.slice (some ⟨g, 0, none⟩) Nn cp) ∧ Nn ≤ cp ∧ Old W w' ∧ Own w' W.heap.size (.slice (some ⟨g, 0, none⟩) Nn cp) (zss.getD k [])) :
    Calls Tryz.prog 156 #[.agg #[.int .i64 Nn, v], .agg #[.bool a, .slice a1 xss.length cap1], .bool ah, .func (.func 157) #[] #[]] w (Rs w ah zss true) := by
  have HZL : Hid (zss.length = ps.length) := hzl
  have HCJ : Hid (∀ k, k < ps.length → (zss.getD k []).length = Nn ∧ ∀ W, Old w W → Calls Tryz.prog 157 #[.agg #[.int .i64 (ps.getD k 0), .int .i64 Nn, .int .i64 (Rf k), .bool a, .slice (us1 k) Nn Nn]] W fun e w' => ∃ g cp, e = .returned (.slice (some ⟨g, 0, none⟩) Nn cp) ∧ Nn ≤ cp ∧ Old W w' ∧ Own w' W.heap.size (.slice (some ⟨g, 0, none⟩) Nn cp) (zss.getD k [])) := cj
  have HPS : Hid (ps.length ≠ 0) := fun h0 => by
    have hsp : spB Nn ps = true := (Bool.and_eq_true_iff.1 hx).1
    have h1 := (bas_at (sp_ring hsp).2.1).1
    omega
  clear hzl cj
  have HP : Hid (PrsW w) := hP
  have HT : Hid (TabW w) := hT
  obtain ⟨a0, cap0, ev⟩ := hv.slice
  subst ev
  have HA : Hid (Old w (((w.alloc (.cells #[.int .i64 Nn, .slice a0 ps.length cap0] 56)).alloc (.cells #[.bool a, .slice a1 xss.length cap1] 58)).alloc (.cells #[.bool false, .slice none 0 0] 58))) := (((Old.refl w).alloc _).alloc _).alloc _
  have HS : Hid (StW (((w.alloc (.cells #[.int .i64 Nn, .slice a0 ps.length cap0] 56)).alloc (.cells #[.bool a, .slice a1 xss.length cap1] 58)).alloc (.cells #[.bool false, .slice none 0 0] 58)) (w.heap.size + 1 + 1) (.bool false) (.slice none 0 0) 58) := by
    have := StW.new ((w.alloc (.cells #[.int .i64 Nn, .slice a0 ps.length cap0] 56)).alloc (.cells #[.bool a, .slice a1 xss.length cap1] 58)) (.bool false) (.slice none 0 0) 58
    simp at this
    exact this
  clear hv hP hT
  go_enter Tryz.func156, Tryz.ntmps156
  go_wp2_with fail
  refine (c1 _ (HP.out.old HA.out) (HT.out.old HA.out) HA.out).mono ?_
  rintro e w2 ⟨g1, hl⟩
  have HG2 : Hid (Old w w2) := Old.trans HA.out g1
  have S2 : Hid (StW w2 (w.heap.size + 1 + 1) (.bool false) (.slice none 0 0) 58) := HS.out.old g1
  have hs2 : w.heap.size + 1 + 1 < w2.heap.size := S2.out.lt
  clear g1
  rcases hl with ⟨hB, rfl⟩ | ⟨hB, g, hg, rfl, hrr⟩
  · rw [hx] at hB
    cases hB
  · have HLB : Hid (RRs w2 g Nn a ps Rf us1 ps.length) := hrr
    clear hrr hg hB hx
    have hpos : 1 ≤ ps.length := Nat.pos_of_ne_zero HPS.out
    have KC := changed_back (Nn : Int) a ps Rf (fun k => .slice (us1 k) (Nn : Int).toNat (Nn : Int).toNat) (.slice (some ⟨g, 0, none⟩) ps.length ps.length) ps.length w2 HLB.out.rd (fun k hk => ⟨_, _, _, rfl⟩) ⟨hpos, by omega⟩ zss (fun k hk W q => by
      rw [Int.toNat_natCast]
      exact ((HCJ.out k hk).2 W (Old.trans HG2.out q)).mono fun e w' h => by
        obtain ⟨g, cp, h1, h2, h3, h4⟩ := h
        exact ⟨_, h1, h3, h4⟩)
    have HKC : Hid (Calls Tryz.prog 188 #[.slice (some ⟨g, 0, none⟩) ps.length ps.length, .func (.func 157) #[] #[]] w2 fun e w' => e = .returned (.slice (some ⟨w2.heap.size, 0, none⟩) ps.length ps.length) ∧ Old w2 w' ∧ Ows (TS 153 5 ps.length (elR (Nn : Int) a ps Rf zss)) w' w2.heap.size w'.heap.size [.slice (some ⟨w2.heap.size, 0, none⟩) ps.length ps.length]) := KC
    have HKN : Hid (∀ W lo, Ows (TS 153 5 ps.length (elR (Nn : Int) a ps Rf zss)) W lo W.heap.size [.slice (some ⟨w2.heap.size, 0, none⟩) ps.length ps.length] → lo ≤ W.heap.size → Calls Tryz.prog 111 #[.slice (some ⟨w2.heap.size, 0, none⟩) ps.length ps.length] W fun e w' => e = .returned (.slice (some ⟨W.heap.size, 0, none⟩) ps.length ps.length) ∧ Old W w' ∧ OwS zss w' lo w'.heap.size (.slice (some ⟨W.heap.size, 0, none⟩) ps.length ps.length)) := fun W lo h hlo => numbersOf_any (Nn : Int) a ps Rf zss ps.length lo _ W ⟨hpos, by omega⟩ HZL.out h hlo
    clear KC HLB
    go_wp2_with fail
    refine HKC.out.mono ?_
    rintro e w3 ⟨rfl, g3, o3⟩
    have O3 : Hid (Ows (TS 153 5 ps.length (elR (Nn : Int) a ps Rf zss)) w3 w2.heap.size w3.heap.size [.slice (some ⟨w2.heap.size, 0, none⟩) ps.length ps.length]) := o3
    have G3 : Hid (Old w2 w3) := g3
    clear g3 o3 HKC
    go_wp2_with fail
    refine (HKN.out w3 w2.heap.size O3.out G3.out.size).mono ?_
    rintro e w4 ⟨rfl, g4, o4⟩
    have G4 : Hid (Old w2 w4) := Old.trans G3.out g4
    have O4 : Hid (OwS zss w4 w2.heap.size w4.heap.size (.slice (some ⟨w3.heap.size, 0, none⟩) ps.length ps.length)) := o4
    have SF : Hid (StW w4 (w.heap.size + 1 + 1) (.bool false) (.slice none 0 0) 58) := S2.out.old G4.out
    clear g4 o4 HKN O3
    have q0 := SF.out.c0
    have q1 := SF.out.c1
    have f0 := SF.out.f0
    have f1 := SF.out.f1
    go_wp2_with fail
    refine bodyPost_ret (ret_rb Tryz.results156 _ _ rfl rfl (st_put2 SF.out _ _)) rfl ⟨_, rfl, ?_, some ⟨w3.heap.size, 0, none⟩, ps.length, by rw [HZL.out], ?_⟩
    · exact ((Old.trans HG2.out G4.out).own (p := ⟨w.heap.size + 1 + 1, 0, none⟩) (by simp; omega) _).own (p := ⟨w.heap.size + 1 + 1, 1, none⟩) (by simp; omega) _
    · rw [HZL.out]
      have h2 := (O4.out.put (k := w.heap.size + 1 + 1) (j := 0) (x := .bool ah) (by omega)).put (k := w.heap.size + 1 + 1) (j := 1) (x := .slice (some ⟨w3.heap.size, 0, none⟩) ps.length ps.length) (by omega)
      have h3 := h2.low (lo' := w.heap.size) (by omega)
      exact h3.high (by simp) (Nat.le_refl _)
end Go.Proofs.YtfgooclnohnkmaaGreatDoor
/- Proved: rows brought ahead and back: what the program and the model make of each. -/
namespace Go.Proofs.YtfgooclnohnkmaaGreatDoor
open Go.ChangeShapes Go.WideShapes Go.ChangeAt Go.RowKit
set_option linter.unusedVariables false
set_option linter.unusedSimpArgs false
open M1
def mkL (f : Int → Int → List Int → List Int) (ps : List Int) (Rf : Nat → Int) (xss : List (List Int)) : List (List Int) := (List.range ps.length).map fun k => f (ps.getD k 0) (Rf k) (xss.getD k [])
theorem mkL_len (f : Int → Int → List Int → List Int) (ps : List Int) (Rf : Nat → Int) (xss : List (List Int)) : (mkL f ps Rf xss).length = ps.length := by simp [mkL]
theorem mkL_get (f : Int → Int → List Int → List Int) (ps : List Int) (Rf : Nat → Int) (xss : List (List Int)) (k : Nat) (hk : k < ps.length) : (mkL f ps Rf xss).getD k [] = f (ps.getD k 0) (Rf k) (xss.getD k []) := by
  simp [mkL, List.getD, hk]
def bkZ (N p r : Int) (xs : List Int) : List Int := toZ (invL p.toNat N.toNat r.toNat (xs.map Int.toNat))
def backF (N : Int) (a : Bool) (p r : Int) (xs : List Int) : List Int := if a then bkZ N p r xs else xs
theorem toZ_back (ys : List Nat) : (toZ ys).map Int.toNat = ys := by
  rw [toZ, List.map_map]
  refine (List.map_congr_left fun x hx => ?_).trans (List.map_id ys)
  simp
theorem gr_poly {N : Int} {ps : List Int} {xss : List (List Int)} (h : grB N ps xss = true) : xss.length = ps.length ∧ ∀ k, k < ps.length → RingOk (ps.getD k 0) N ∧ polyB (ps.getD k 0) N (xss.getD k []) = true := by
  unfold grB rwB rwA at h
  rw [Bool.and_eq_true, Bool.and_eq_true, decide_eq_true_eq, decide_eq_true_eq] at h
  obtain ⟨h1, h2, h3⟩ := h
  obtain ⟨s1, s2, s3⟩ := sp_ring h1
  refine ⟨h2, fun k hk => ⟨s3 k hk, ?_⟩⟩
  first
  | exact h3 k (by omega) (by omega)
  | exact h3 k (by omega)
/-- a row of good rows, opened -/
theorem row_open {N : Int} {ps : List Int} {xss : List (List Int)} {Rf : Nat → Int} (hR : ∀ k, RingOk (ps.getD k 0) N → ((0 ≤ Rf k ∧ Rf k < ps.getD k 0) ∧ (∀ W, PrsW W → TabW W → Calls Tryz.prog 163 #[.int .i64 (ps.getD k 0), .int .i64 N] W fun e w' => e = .returned (.tuple #[.agg #[.int .i64 (ps.getD k 0), .int .i64 N, .int .i64 (Rf k)], .bool true]) ∧ Old W w')) ∧ (∀ W, Calls Tryz.prog 185 #[.int .i64 (ps.getD k 0), .int .i64 N] W fun e w' => e = .returned (.tuple #[.agg #[.int .i64 (ps.getD k 0), .int .i64 N, .int .i64 (Rf k)], .bool true]) ∧ Old W w') ∧ ∃ P M R : Nat, ps.getD k 0 = P ∧ N = M ∧ Rf k = R ∧ R < P ∧ RingOk P M ∧ (F1.Pr P → Rt P (2 * M) R)) (h : grB N ps xss = true) (k : Nat) (hk : k < ps.length) :
    ∃ (P M R : Nat) (ys : List Nat), ps.getD k 0 = P ∧ N = M ∧ Rf k = R ∧ xss.getD k [] = toZ ys ∧ R < P ∧ (2 ≤ P ∧ P ≤ 268435456) ∧ Sz4 M ∧ ys.length = M ∧ (∀ y ∈ ys, y < P) ∧ Cg P ((R : Int) ^ (2 * M)) 1 ∧ Cg P ((R : Int) ^ M) (-1) := by
  obtain ⟨h1, h2⟩ := gr_poly h
  obtain ⟨h3, h4⟩ := h2 k hk
  obtain ⟨_, _, P, M, R, e1, e2, e3, hlt, hok, hrt⟩ := hR k h3
  rw [e1, e2] at h4
  obtain ⟨ys, e4, la, ha⟩ := polyB_yes h4
  have b1 := modB_yes hok.md
  have b2 := hok.sz
  have hP : 2 ≤ P ∧ P ≤ 268435456 := by omega
  have hS : Sz4 M := by omega
  obtain ⟨r1, r2⟩ := (hrt (ring_pr hok)).cg hP.1
  exact ⟨P, M, R, ys, e1, e2, e3, e4, hlt, hP, hS, la, ha, r1, r2⟩
theorem bkZ_toZ (P M R : Nat) (ys : List Nat) : bkZ M P R (toZ ys) = toZ (invL P M R ys) := by
  unfold bkZ
  rw [toZ_back]
  simp
theorem sz4_bd {M : Nat} (h : Sz4 M) : 2 ≤ M ∧ M ≤ 16 := by
  unfold Sz4 at h
  omega
theorem backF_len (N : Int) (a : Bool) (ps : List Int) (xss : List (List Int)) (Rf : Nat → Int) (hR : ∀ k, RingOk (ps.getD k 0) N → ((0 ≤ Rf k ∧ Rf k < ps.getD k 0) ∧ (∀ W, PrsW W → TabW W → Calls Tryz.prog 163 #[.int .i64 (ps.getD k 0), .int .i64 N] W fun e w' => e = .returned (.tuple #[.agg #[.int .i64 (ps.getD k 0), .int .i64 N, .int .i64 (Rf k)], .bool true]) ∧ Old W w')) ∧ (∀ W, Calls Tryz.prog 185 #[.int .i64 (ps.getD k 0), .int .i64 N] W fun e w' => e = .returned (.tuple #[.agg #[.int .i64 (ps.getD k 0), .int .i64 N, .int .i64 (Rf k)], .bool true]) ∧ Old W w') ∧ ∃ P M R : Nat, ps.getD k 0 = P ∧ N = M ∧ Rf k = R ∧ R < P ∧ RingOk P M ∧ (F1.Pr P → Rt P (2 * M) R)) (h : grB N ps xss = true) (k : Nat) (hk : k < ps.length) : (((backF N a) (ps.getD k 0) (Rf k) (xss.getD k [])).length : Int) = N := by
  obtain ⟨P, M, R, ys, e1, e2, e3, e4, hlt, hP2, hS, la, ha, r1, r2⟩ := row_open hR h k hk
  rw [e1, e3, e4, e2]
  unfold backF
  split
  all_goals first | (rw [toZ_len, la]) | (rw [bkZ_toZ, toZ_len, invL_len]; omega) | (rw [bkZ_toZ, toZ_len, invL_len])
theorem spec_l5Back_any (N : Int) (ps : List Int) (a : Bool) (xss : List (List Int)) (Rf : Nat → Int) (hR : ∀ k, RingOk (ps.getD k 0) N → ((0 ≤ Rf k ∧ Rf k < ps.getD k 0) ∧ (∀ W, PrsW W → TabW W → Calls Tryz.prog 163 #[.int .i64 (ps.getD k 0), .int .i64 N] W fun e w' => e = .returned (.tuple #[.agg #[.int .i64 (ps.getD k 0), .int .i64 N, .int .i64 (Rf k)], .bool true]) ∧ Old W w')) ∧ (∀ W, Calls Tryz.prog 185 #[.int .i64 (ps.getD k 0), .int .i64 N] W fun e w' => e = .returned (.tuple #[.agg #[.int .i64 (ps.getD k 0), .int .i64 N, .int .i64 (Rf k)], .bool true]) ∧ Old W w') ∧ ∃ P M R : Nat, ps.getD k 0 = P ∧ N = M ∧ Rf k = R ∧ R < P ∧ RingOk P M ∧ (F1.Pr P → Rt P (2 * M) R)) (v u1 : Value) (w : World) (hv : Row w v ps) (h1 : RowS w u1 xss) (h : grB N ps xss = true) :
    Calls Tryz.prog 85 #[.agg #[.int .i64 N, v], .agg #[.bool a, u1]] w fun e w' => ∃ v', e = .returned v' ∧ Old w w' ∧ OwS (mkL (backF N a) ps Rf xss) w' w.heap.size w'.heap.size v' := by
  obtain ⟨t1, t2, t3, t4, t5, t6⟩ := two_parts (two_of.2 ⟨h, h, (rfl : a = a)⟩)
  obtain ⟨p1, p2⟩ := gr_poly h
  have cR : ∀ k, k < ps.length → ∀ W, Calls Tryz.prog 185 #[.int .i64 (ps.getD k 0), .int .i64 N] W fun e w' => e = .returned (.tuple #[.agg #[.int .i64 (ps.getD k 0), .int .i64 N, .int .i64 (Rf k)], .bool true]) ∧ Old W w' := fun k hk => (hR k (p2 k hk).1).2.1
  cases a
  · refine spec_l5Back_c N ps xss _ Rf v u1 w hv h1 t2 t3 (mkL_len _ _ _ _) cR (fun k hk => ?_)
    have q := (t6 k hk).1
    rw [mkL_get _ _ _ _ _ hk]
    refine ⟨?_, by omega, by omega⟩
    unfold backF
    simp
  · refine spec_l5Back_t N ps xss _ Rf v u1 w hv h1 t2 t3 (mkL_len _ _ _ _) cR (fun k hk W u hu => ?_)
    obtain ⟨P, M, R, ys, e1, e2, e3, e4, hlt, hP2, hS, la, ha, r1, r2⟩ := row_open hR h k hk
    rw [mkL_get _ _ _ _ _ hk]
    rw [e4] at hu
    rw [e1, e3, e4, e2, show backF M true P R (toZ ys) = toZ (invL P M R ys) from bkZ_toZ P M R ys]
    exact spec_l3Inverse P M R ys u W hu hP2 hS hlt la ha (invM_ltI _ _ (by omega)) (invM_ltI _ _ (by omega))
theorem impl_BackRows (N : Int) (ps : List Int) (a : Bool) (xss : List (List Int)) (Rf : Nat → Int) (hR : ∀ k, RingOk (ps.getD k 0) N → ((0 ≤ Rf k ∧ Rf k < ps.getD k 0) ∧ (∀ W, PrsW W → TabW W → Calls Tryz.prog 163 #[.int .i64 (ps.getD k 0), .int .i64 N] W fun e w' => e = .returned (.tuple #[.agg #[.int .i64 (ps.getD k 0), .int .i64 N, .int .i64 (Rf k)], .bool true]) ∧ Old W w')) ∧ (∀ W, Calls Tryz.prog 185 #[.int .i64 (ps.getD k 0), .int .i64 N] W fun e w' => e = .returned (.tuple #[.agg #[.int .i64 (ps.getD k 0), .int .i64 N, .int .i64 (Rf k)], .bool true]) ∧ Old W w') ∧ ∃ P M R : Nat, ps.getD k 0 = P ∧ N = M ∧ Rf k = R ∧ R < P ∧ RingOk P M ∧ (F1.Pr P → Rt P (2 * M) R)) (v u1 : Value) (w : World) (lo1 hi1 : Nat) (hP : PrsW w) (hT : TabW w) (hv : Row w v ps) (hf : Fit v) (h1 : OwS xss w lo1 hi1 u1) (hlp : ps.length ≤ 1048576) (hl1 : xss.length ≤ 1048576) (hr1 : ∀ r ∈ xss, r.length ≤ 1048576) :
    Calls Tryz.prog 87 #[.agg #[.int .i64 N, v], .agg #[.bool a, u1]] w fun e w' => (grB N ps xss = true → Rs w false (mkL (backF N a) ps Rf xss) true e w') ∧ (grB N ps xss = false → Rs w false [] false e w') := by
  obtain ⟨us1, cs1, at1⟩ := h1.ats ps
  obtain ⟨a0, cap0, ev⟩ := hv.slice
  obtain ⟨a1, cap1, e1⟩ := h1.slice
  subst ev e1
  have c1 := fun W W' (q : Old w W) (p1 : PrsW W') (p2 : TabW W') (q' : Old W W') => impl_ringRows N a ps xss Rf us1 cs1 (.slice a0 ps.length cap0) a1 cap1 W' p1 p2 (hv.old (Old.trans q q')) hf hlp hl1 hr1 (fun h => (at1 h).old (Old.trans q q')) (fun k hk => (hR k hk).1)
  cases hyes : grB N ps xss
  · refine (impl_BackRows_of N ps xss a a0 a1 cap0 cap1 w false [] false (fun W q => eachRow_back_no N ps a false xss Rf us1 _ a1 cap1 W (hP.old q) (hT.old q) (hv.old q) (fun W' p1 p2 q' => c1 W W' q p1 p2 q') hyes)).mono (fun e w' h => ⟨(fun h' => by cases h'), fun _ => h⟩)
  · obtain ⟨t1, t2, t3, t4, t5, t6⟩ := two_parts (two_of.2 ⟨hyes, hyes, (rfl : a = a)⟩)
    obtain ⟨Nn, hNn⟩ : ∃ Nn : Nat, N = Nn := ⟨N.toNat, by omega⟩
    subst hNn
    refine (impl_BackRows_of Nn ps xss a a0 a1 cap0 cap1 w false (mkL (backF Nn a) ps Rf xss) true (fun W q => eachRow_back_yes Nn ps a false xss Rf us1 _ a1 cap1 W (hP.old q) (hT.old q) (hv.old q) (fun W' p1 p2 q' => c1 W W' q p1 p2 q') hyes (mkL (backF Nn a) ps Rf xss) (mkL_len _ _ _ _) t2.2 (fun k hk => ?_))).mono (fun e w' h => ⟨fun _ => h, (fun h' => by cases h')⟩)
    obtain ⟨s1, s2, s3, s4⟩ := t6 k hk
    obtain ⟨b1, _, _, _, rr1⟩ := at1 (by omega)
    have row1 := (rr1 k (by omega)).2.2
    have l1 : (xss.getD k []).length = Nn := by omega
    rw [l1] at row1
    have row2 := row1.recap (c' := Nn) (fun h => by rw [h] at l1; simp at l1; omega)
    have hlen := backF_len Nn a ps xss Rf hR hyes k hk
    rw [mkL_get _ _ _ _ _ hk]
    refine ⟨by omega, fun W' q' => ?_⟩
    obtain ⟨P, M, R, ys, e1, e2, e3, e4, hlt, hP2, hS, la, ha, r1, r2⟩ := row_open hR hyes k hk
    obtain rfl : Nn = M := by omega
    rw [e1, e3, e4] at hlen ⊢
    rw [e4] at row2 l1
    have hN2 := sz4_bd hS
    cases a
    · refine impl_madeBack_c P R Nn _ (us1 k) W' (fun W'' q'' => ?_)
      exact impl_copied P R false Nn (toZ ys) (us1 k) W'' (row2.old (Old.trans q (Old.trans q' q''))) hN2 l1
    · refine impl_madeBack_t P R Nn _ (us1 k) W' (fun W'' q'' => ?_) (by omega) (by omega)
      rw [show backF Nn true P R (toZ ys) = toZ (invL P Nn R ys) from bkZ_toZ P Nn R ys, ← inv_same P Nn R ys hS la hP2.1 ha r1 r2]
      exact impl_inverse0 P Nn R ys _ W'' (hT.old (Old.trans q (Old.trans q' q''))) (row2.old (Old.trans q (Old.trans q' q''))) hP2 hS hlt la ha
end Go.Proofs.YtfgooclnohnkmaaGreatDoor
