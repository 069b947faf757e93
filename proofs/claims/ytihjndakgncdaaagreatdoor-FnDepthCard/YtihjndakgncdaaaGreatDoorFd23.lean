/- Proved: several texts in one: what each proves is said ahead of it. -/
import Derived.Test.YtihjndakgncdaaaGreatDoorFd06
import Derived.RangeFuncIn
import Derived.RangeFuncRecord
import Derived.RangeFuncCalls
import Derived.TacticsIn
/- Proved: a region without a defer statement runs in a round of a range over a function as it does elsewhere; one round of the loop in the program's DepthOf. -/
namespace Go.Proofs.YtihjndakgncdaaaGreatDoor
open Go.ChangeShapes Go.WideShapes Go.ChangeAt Go.RowKit
open M2
set_option linter.unusedVariables false
set_option linter.unusedSimpArgs false
theorem upon_round {P : Program} {o : Oper} {a : Act} {next next' : Act → World → Prop} {Q Q' : Exit → Act → World → Prop} {F : Fence} (hF : F.plain = Fence.wide) {n : Nat} (hn : ∀ a w, next a w → next' a w) (hp : ∀ ch a w, Q (.panic ch) a w → Q' (.panic ch) a w) (hq : ¬ LetsOut Q) (r : Result Next) (h : o.upon P a next Q r) : o.uponIn F n P a next' Q' r := by
  have hd : F.depth.isSome = true → 1 ≤ n := fun e => by
    have : F.plain.depth = none := by rw [hF]; rfl
    rw [show F.depth = none from this] at e
    cases e
  have hc : ∀ {f args w R}, Calls P f args w R → CallsIn F (n - 1) P f args w R := fun h => by
    have k : CallsIn F.plain (n - 1) P _ _ _ _ := hF ▸ callsIn_wide.2 h
    exact k
  cases r with
  | ok nx w' =>
    cases nx with
    | value v => exact hn _ _ h
    | skip => exact hn _ _ h
    | defer d => exact hn _ _ h
    | enter f args =>
      refine ⟨hd, hc (Calls.mono h fun e w2 k => ?_)⟩
      cases e with
      | returned v => exact hn _ _ k
      | panicked ch => exact hp _ _ _ k
      | outgrown => exact absurd k hq
    | row s args =>
      refine ⟨hd, fun c cs hr => ?_⟩
      obtain ⟨v, w2, k, s⟩ := h c cs
      have k2 : StepsIn (Machine.fenced P F.plain) P _ _ := hF ▸ stepsIn_wide.2 s
      exact ⟨v, w2, hn _ _ k, k2⟩
    | _ => exact h.elim
  | halt hl w' =>
    cases hl with
    | panic v => exact hp _ _ _ h
    | _ => exact h.elim
theorem list_round {P : Program} {ops : Array Oper} {Q Q' : Exit → Act → World → Prop} {l n : Nat} (hQ : ∀ a w, Q .normal a w → Q' .normal a w) (hp : ∀ ch a w, Q (.panic ch) a w → Q' (.panic ch) a w) (hq : ¬ LetsOut Q) : ∀ (rest : List Oper), (∀ o ∈ rest, ∀ c, o.op ≠ .defer c) → ∀ a w, wpList P ops Q rest a w → wpListIn (Fence.wide.inRound l) n P ops Q' rest a w
  | [], _, a, w, h => hQ _ _ h
  | o :: rest, hd, a, w, h => by
    have ih := list_round (P := P) (ops := ops) (l := l) (n := n) hQ hp hq rest (fun x hx => hd x (List.mem_cons_of_mem _ hx))
    simp only [wpList] at h
    simp only [wpListIn]
    split at h
    · rename_i hw
      rw [if_pos hw]
      rcases h with h | ⟨_, h⟩
      · refine ⟨fun _ _ => trivial, ?_⟩
        rw [Oper.semAt_eq _ _ _ (hd o (List.mem_cons_self ..))]
        exact upon_round (F := Fence.wide.inRound l) rfl ih hp hq _ h
      · exact absurd h hq
    · rename_i hw
      rw [if_neg hw]
      exact ⟨fun _ _ => trivial, ih _ _ h⟩
theorem region_round {P : Program} {l n id : Nat} {ops : List Oper} {K : Act → World → Prop} {Q' : Exit → Act → World → Prop} {a : Act} {w : World} (hQ : ∀ a w, K a w → Q' .normal a w) (hd : ops.all (fun o => match o.op with | .defer _ => false | _ => true) = true) (h : wpList P ops.toArray (Exit.then K fun _ _ _ => False) ops a w) : (Code.region id ops.toArray false).wpIn (Fence.wide.inRound l) n P Q' a w :=
  wpIn_region_lit (list_round (fun a w h => hQ a w h) (fun _ _ _ h => h.elim) (fun ⟨_, _, h⟩ => h) ops (fun o ho c hc => by
    have := List.all_eq_true.1 hd o ho
    rw [hc] at this
    cases this) a w h)
theorem op_wide {P : Program} {n : Nat} {ops : Array Oper} {rest : List Oper} {o : Oper} {a : Act} {w : World} {Q : Exit → Act → World → Prop} (hg : o.guard = none) (hnd : ∀ c, o.op ≠ .defer c) (h : o.wp P a w (wpListIn Fence.wide n P ops Q rest) fun _ _ _ => False) : wpListIn Fence.wide n P ops Q (o :: rest) a w := by
  simp only [wpListIn, Region.wanted, hg, if_true]
  refine ⟨fun _ _ => trivial, ?_⟩
  rw [Oper.semAt_eq _ _ _ hnd]
  exact upon_round (F := Fence.wide) rfl (fun _ _ h => h) (fun _ _ _ h => h.elim) (fun ⟨_, _, h⟩ => h) _ h
def rangeAtDp : Code → Option (Code × Code)
  | .rangeFunc _ _ a b => some (a, b)
  | .seq a b => match rangeAtDp a with
    | some c => some c
    | none => rangeAtDp b
  | .block _ c => rangeAtDp c
  | _ => none
def dpA (c : Option Code) : Code := ((c.bind rangeAtDp).map (·.1)).getD .skip
def dpB (c : Option Code) : Code := ((c.bind rangeAtDp).map (·.2)).getD .skip
structure Bt (d l : Nat) (w w' : World) : Prop where
  os : w'.os = w.os
  tape : w'.tape = w.tape
  output : w'.output = w.output
  size : w.heap.size ≤ w'.heap.size
  block : ∀ k, k < w.heap.size → k ≠ d → k ≠ l → w'.heap[k]? = w.heap[k]?
theorem Bt.of {d l : Nat} {w w' : World} (h : Old w w') : Bt d l w w' := ⟨h.os, h.tape, h.output, h.size, fun k hk _ _ => h.block k hk⟩
theorem Bt.refl (d l : Nat) (w : World) : Bt d l w w := Bt.of (Old.refl w)
theorem Bt.trans {d l : Nat} {a b c : World} (h : Bt d l a b) (k : Bt d l b c) : Bt d l a c := ⟨k.os.trans h.os, k.tape.trans h.tape, k.output.trans h.output, Nat.le_trans h.size k.size, fun x hx h1 h2 => (k.block x (Nat.lt_of_lt_of_le hx h.size) h1 h2).trans (h.block x hx h1 h2)⟩
theorem Bt.put {d l : Nat} {w w' : World} (h : Bt d l w w') (o : Obj) : Bt d l w (w'.putObj l o) := h.trans ⟨rfl, rfl, rfl, by simp [World.putObj], fun k _ _ h2 => World.putObj_heap_other h2⟩
theorem Bt.cell {d l : Nat} {w w' : World} (h : Bt d l w w') (i : Nat) (v : Value) : Bt d l w (w'.setCell ⟨d, i, none⟩ v) := by
  have g := (Below.refl 0 w').setCell (p := ⟨d, i, none⟩) (Nat.zero_le _) v
  exact h.trans ⟨g.os, g.tape, g.output, g.size, fun k _ h1 _ => heap_setCell_other _ ⟨d, i, none⟩ k _ h1⟩
theorem Bt.row {d l : Nat} {w w' : World} (h : Bt d l w w') {g : Nat} (hg : w.heap.size ≤ g) (cs : Array Value) : Bt d l w (w'.setRow g cs) := by
  have e : ∀ g : Nat, (w'.setRow g cs).os = w'.os ∧ (w'.setRow g cs).tape = w'.tape ∧ (w'.setRow g cs).output = w'.output ∧ (w'.setRow g cs).heap.size = w'.heap.size := fun g => ⟨rfl, rfl, rfl, by simp [World.setRow]⟩
  exact ⟨(e g).1.trans h.os, (e g).2.1.trans h.tape, (e g).2.2.1.trans h.output, by rw [(e g).2.2.2]; exact h.size, fun x hx h1 h2 => (setRow_other w' g x cs (by omega)).trans (h.block x hx h1 h2)⟩
theorem Bt.old {d l : Nat} {w w1 w2 : World} (h : Old w w1) (k : Bt d l w1 w2) (hd : w.heap.size ≤ d) (hl : w.heap.size ≤ l) : Old w w2 := ⟨k.os.trans h.os, k.tape.trans h.tape, k.output.trans h.output, Nat.le_trans h.size k.size, fun x hx => (k.block x (Nat.lt_of_lt_of_le hx h.size) (by omega) (by omega)).trans (h.block x hx)⟩
end Go.Proofs.YtihjndakgncdaaaGreatDoor
/- Proved: one round of the loop in the program's DepthOf. -/
namespace Go.Proofs.YtihjndakgncdaaaGreatDoor
open Go.ChangeShapes Go.WideShapes Go.ChangeAt Go.RowKit
open M2
set_option linter.unusedVariables false
set_option linter.unusedSimpArgs false
def dpL (c : Option Code) (fn : FuncId) (tm : Array Value) (D : Nat) (st : LoopState) (pe : Option Code) : Loop := { state := st, pending := pe, fn, tmps := tm, params := #[20], assign := dpA c, body := dpB c, defers := D }
set_option maxRecDepth 100000 in
set_option maxHeartbeats 4000000 in
theorem dp_assign (W : World) (l n : Nat) (SB : Array Value) (hB : Sq SB) (u0 u1 u2 u3 u4 u5 u6 u7 u8 u9 u10 u11 u12 u13 u14 u15 u16 u17 u18 u19 u21 u22 u23 u24 u25 u26 u27 u28 u29 u30 u31 u32 : Value) (Q : Exit → Act → World → Prop)
    (HK : Q .normal { tmps := #[u0, u1, u2, u3, u4, u5, u6, u7, .pointer (some ⟨W.heap.size, 0, none⟩), u9, u10, u11, u12, u13, u14, u15, u16, u17, u18, u19, .agg SB, u21, u22, u23, u24, u25, u26, u27, u28, u29, u30, u31, u32], defers := [] } ((W.alloc (.cells Tryz.zeroCells53 53)).setRow W.heap.size SB)) :
    (dpA Tryz.f5.body).wpIn (Fence.wide.inRound l) n Tryz.prog Q { tmps := #[u0, u1, u2, u3, u4, u5, u6, u7, u8, u9, u10, u11, u12, u13, u14, u15, u16, u17, u18, u19, .agg SB, u21, u22, u23, u24, u25, u26, u27, u28, u29, u30, u31, u32], defers := [] } W := by
  unfold dpA
  conv => arg 4; whnf
  refine region_round (K := fun a w => Q .normal a w) (fun _ _ h => h) (by kernel_rfl) ?_
  have H := Sg.zero W W.heap.size rfl
  go_wp2_with (first | ((with_reducible refine store_sg H SB hB ?_ ?_ ?_); exact rfl; exact rfl; simp only [Act.put, List.setIfInBounds_toArray, List.set_cons_succ, List.set_cons_zero]) | fail)
  exact HK
set_option maxRecDepth 100000 in
set_option maxHeartbeats 4000000 in
theorem dp_body (W : World) (l n Bd Bb Bl : Nat) (SB SL : Array Value) (d C : Int) (hd : Bk W Bd #[.int .i64 d] 3) (hB : Sg W Bb SB) (hL : Sg W Bl SL) (h0 : -1 ≤ d ∧ d ≤ 20)
    (KC : d ≠ 20 → ∀ W', Old W W' → Calls Tryz.prog 20 #[.agg SB, .agg SL] W' fun e w' => e = .returned (.int .i64 C) ∧ Old W' w')
    (u0 u1 u2 u3 u4 u5 u9 u10 u11 u12 u13 u14 u15 u16 u17 u18 u19 u21 u22 u23 u24 u25 u26 u27 u28 u29 u30 u31 u32 : Value) (Q : Exit → Act → World → Prop)
    (HX : d = 20 ∨ 0 ≤ C → ∀ a W', Old W W' → Q (.exit 0) a W') (HN : d ≠ 20 → C < 0 → ∀ a W', Old W W' → Q .normal a (W'.setCell ⟨Bd, 0, none⟩ (.int .i64 (d + 1)))) :
    (dpB Tryz.f5.body).wpIn (Fence.wide.inRound l) n Tryz.prog Q { tmps := #[u0, u1, u2, u3, u4, u5, .pointer (some ⟨Bd, 0, none⟩), .pointer (some ⟨Bl, 0, none⟩), .pointer (some ⟨Bb, 0, none⟩), u9, u10, u11, u12, u13, u14, u15, u16, u17, u18, u19, .agg SB, u21, u22, u23, u24, u25, u26, u27, u28, u29, u30, u31, u32], defers := [] } W := by
  have HHX : Hid (d = 20 ∨ 0 ≤ C → ∀ a W', Old W W' → Q (.exit 0) a W') := HX
  have HHN : Hid (d ≠ 20 → C < 0 → ∀ a W', Old W W' → Q .normal a (W'.setCell ⟨Bd, 0, none⟩ (.int .i64 (d + 1)))) := HN
  have HKC : Hid (d ≠ 20 → ∀ W', Old W W' → Calls Tryz.prog 20 #[.agg SB, .agg SL] W' fun e w' => e = .returned (.int .i64 C) ∧ Old W' w') := KC
  have HD : Hid (Bk W Bd #[.int .i64 d] 3) := hd
  have p0 := hd.c (i := 0) rfl
  clear HX HN KC hd
  unfold dpB
  conv => arg 4; whnf
  refine wpIn_block (wpIn_seq (wpIn_seq ?_))
  refine region_round (K := _) (fun _ _ h => h) (by kernel_rfl) ?_
  by_cases hd20 : d = 20
  · have hx := fun a => HHX.out (.inl hd20) a W (Old.refl W)
    have q : (d == 20) = true := by rw [hd20]; rfl
    clear hd20 HHX HHN HKC HD
    go_wp2_with (first | fail)
    exact wpIn_cond_true rfl (wpIn_exit (hx _))
  · have KC := HKC.out hd20
    have q : (d == 20) = false := by simpa using hd20
    have HD20 : Hid (d ≠ 20) := hd20
    clear hd20 HKC
    go_wp2_with (first | fail)
    refine wp_load_row 53 (.tmp 8) rfl Bb (by exact rfl) 53 SB (0, 0) _ hB.blk Tryz.underlying53 rfl (by rw [hB.sq.1]; exact infoSz) ?_
    simp only [Act.put, List.setIfInBounds_toArray, List.set_cons_succ, List.set_cons_zero]
    go_wp2_with (first | fail)
    refine wp_load_row 53 (.tmp 7) rfl Bl (by exact rfl) 53 SL (0, 0) _ hL.blk Tryz.underlying53 rfl (by rw [hL.sq.1]; exact infoSz) ?_
    simp only [Act.put, List.setIfInBounds_toArray, List.set_cons_succ, List.set_cons_zero]
    by_cases hC : 0 ≤ C
    · have qC : decide (0 ≤ C) = true := decide_eq_true hC
      have hx := fun a w1 => HHX.out (.inr hC) a w1
      clear hC HHX HHN HD20
      go_wp2_with (first | (go_at_call 20; refine (KC _ (Old.refl _)).mono ?_; rintro e w1 ⟨rfl, g1⟩; have HG : Hid (Old W w1) := g1) | fail)
      exact wpIn_cond_true rfl (wpIn_exit (hx _ _ HG.out))
    · have qC : decide (0 ≤ C) = false := decide_eq_false hC
      have hn := fun a w1 => HHN.out HD20.out (by omega) a w1
      clear hC HHX HHN HD20
      go_wp2_with (first | (go_at_call 20; refine (KC _ (Old.refl _)).mono ?_; rintro e w1 ⟨rfl, g1⟩; have HG : Hid (Old W w1) := g1) | fail)
      refine wpIn_cond_false rfl (wpIn_skip ?_)
      have p1 := (HD.out.old HG.out).c (i := 0) rfl
      have p2 := frozen_of_row _ _ 0 _ _ (HD.out.old HG.out)
      have hw : IntKind.i64.wrap (d + 1) = d + 1 := by rw [IntKind.wrap_i64]; omega
      clear p0
      refine region_round (K := _) (fun _ _ h => h) (by kernel_rfl) ?_
      go_wp2_with (first | fail)
      exact HG.out
end Go.Proofs.YtihjndakgncdaaaGreatDoor
/- Proved: one round of the loop in the program's DepthOf, as the iterator meets it. -/
namespace Go.Proofs.YtihjndakgncdaaaGreatDoor
open Go.ChangeShapes Go.WideShapes Go.ChangeAt Go.RowKit
open M2
set_option linter.unusedVariables false
set_option linter.unusedSimpArgs false
theorem Bk.bt {d l k : Nat} {w w' : World} {cs : Array Value} {t : TypeId} (h : Bk w k cs t) (g : Bt d l w w') (h1 : k ≠ d) (h2 : k ≠ l) : Bk w' k cs t := (g.block k h.lt h1 h2).trans h
theorem Sg.bt {d l k : Nat} {w w' : World} {A : Array Value} (h : Sg w k A) (g : Bt d l w w') (h1 : k ≠ d) (h2 : k ≠ l) : Sg w' k A := ⟨(g.block k h.lt h1 h2).trans h.blk, h.sq⟩
set_option maxRecDepth 100000 in
set_option maxHeartbeats 4000000 in
theorem dp_round (fn : FuncId) (D l n Bd Bl : Nat) (SB SL : Array Value) (d C : Int) (W : World) (hd : Bk W Bd #[.int .i64 d] 3) (hB : Sq SB) (hL : Sg W Bl SL) (h0 : -1 ≤ d ∧ d ≤ 20) (h1 : Bd ≠ l) (h2 : Bl ≠ l) (h3 : Bl ≠ Bd)
    (KC : d ≠ 20 → ∀ W', Calls Tryz.prog 20 #[.agg SB, .agg SL] W' fun e w' => e = .returned (.int .i64 C) ∧ Old W' w')
    (u0 u1 u2 u3 u4 u5 u8 u9 u10 u11 u12 u13 u14 u15 u16 u17 u18 u19 u21 u22 u23 u24 u25 u26 u27 u28 u29 u30 u31 u32 u20 : Value) (hl : W.heap[l]? = some (.loop (dpL Tryz.f5.body fn #[u0, u1, u2, u3, u4, u5, .pointer (some ⟨Bd, 0, none⟩), .pointer (some ⟨Bl, 0, none⟩), u8, u9, u10, u11, u12, u13, u14, u15, u16, u17, u18, u19, u20, u21, u22, u23, u24, u25, u26, u27, u28, u29, u30, u31, u32] D .ready none))) :
    RoundIn Fence.wide n Tryz.prog l fn #[u0, u1, u2, u3, u4, u5, .pointer (some ⟨Bd, 0, none⟩), .pointer (some ⟨Bl, 0, none⟩), u8, u9, u10, u11, u12, u13, u14, u15, u16, u17, u18, u19, .agg SB, u21, u22, u23, u24, u25, u26, u27, u28, u29, u30, u31, u32] (dpA Tryz.f5.body) (dpB Tryz.f5.body) W fun e W' =>
      ((d = 20 ∨ 0 ≤ C) ∧ e = .returned (.bool false) ∧ Bt Bd l W W' ∧ Bk W' Bd #[.int .i64 d] 3 ∧ W'.heap[l]? = some (.loop (dpL Tryz.f5.body fn #[u0, u1, u2, u3, u4, u5, .pointer (some ⟨Bd, 0, none⟩), .pointer (some ⟨Bl, 0, none⟩), u8, u9, u10, u11, u12, u13, u14, u15, u16, u17, u18, u19, u20, u21, u22, u23, u24, u25, u26, u27, u28, u29, u30, u31, u32] D .done (some (.exit 0))))) ∨
      (d ≠ 20 ∧ C < 0 ∧ e = .returned (.bool true) ∧ Bt Bd l W W' ∧ Bk W' Bd #[.int .i64 (d + 1)] 3 ∧ W'.heap[l]? = some (.loop (dpL Tryz.f5.body fn #[u0, u1, u2, u3, u4, u5, .pointer (some ⟨Bd, 0, none⟩), .pointer (some ⟨Bl, 0, none⟩), u8, u9, u10, u11, u12, u13, u14, u15, u16, u17, u18, u19, u20, u21, u22, u23, u24, u25, u26, u27, u28, u29, u30, u31, u32] D .ready none))) := by
  refine roundIn_of_wpIn trivial ?_
  refine dp_assign W l n SB hB u0 u1 u2 u3 u4 u5 (.pointer (some ⟨Bd, 0, none⟩)) (.pointer (some ⟨Bl, 0, none⟩)) u8 u9 u10 u11 u12 u13 u14 u15 u16 u17 u18 u19 u21 u22 u23 u24 u25 u26 u27 u28 u29 u30 u31 u32 _ ?_
  have hll : l < W.heap.size := (Array.getElem?_eq_some_iff.1 hl).1
  obtain ⟨W1, hW1⟩ : ∃ W1, (W.alloc (.cells Tryz.zeroCells53 53)).setRow W.heap.size SB = W1 := ⟨_, rfl⟩
  have g1 : Old W W1 := hW1 ▸ ((Old.refl W).alloc _).row (Nat.le_refl _) SB
  have hS1 : Sg W1 W.heap.size SB := hW1 ▸ (Sg.zero W W.heap.size rfl).row SB hB
  have hl1 : W1.heap[l]? = some (.loop (dpL Tryz.f5.body fn #[u0, u1, u2, u3, u4, u5, .pointer (some ⟨Bd, 0, none⟩), .pointer (some ⟨Bl, 0, none⟩), u8, u9, u10, u11, u12, u13, u14, u15, u16, u17, u18, u19, u20, u21, u22, u23, u24, u25, u26, u27, u28, u29, u30, u31, u32] D .ready none)) := (g1.block l hll).trans hl
  rw [hW1]
  obtain ⟨r0, hr0⟩ : ∃ r0 : LoopState → Option Code → Loop, (fun st pe => dpL Tryz.f5.body fn #[u0, u1, u2, u3, u4, u5, .pointer (some ⟨Bd, 0, none⟩), .pointer (some ⟨Bl, 0, none⟩), u8, u9, u10, u11, u12, u13, u14, u15, u16, u17, u18, u19, u20, u21, u22, u23, u24, u25, u26, u27, u28, u29, u30, u31, u32] D st pe) = r0 := ⟨_, rfl⟩
  have hr : ∀ st pe, dpL Tryz.f5.body fn #[u0, u1, u2, u3, u4, u5, .pointer (some ⟨Bd, 0, none⟩), .pointer (some ⟨Bl, 0, none⟩), u8, u9, u10, u11, u12, u13, u14, u15, u16, u17, u18, u19, u20, u21, u22, u23, u24, u25, u26, u27, u28, u29, u30, u31, u32] D st pe = r0 st pe := fun st pe => by rw [← hr0]
  have hrs : ∀ st pe, (r0 st pe).state = st := fun st pe => by rw [← hr0]; rfl
  have hru : ∀ st pe st' pe', { r0 st pe with state := st', pending := pe' } = r0 st' pe' := fun st pe st' pe' => by rw [← hr0]; rfl
  have hrb : ∀ st pe st', { r0 st pe with state := st' } = r0 st' pe := fun st pe st' => by rw [← hr0]; rfl
  rw [hr] at hl hl1
  simp only [hr]
  have hl2 : (W1.putObj l (.loop (r0 .busy none))).heap[l]? = some (.loop (r0 .busy none)) := World.putObj_heap_same (Array.getElem?_eq_some_iff.1 hl1).1
  have b2 : Bt Bd l W (W1.putObj l (.loop (r0 .busy none))) := (Bt.of g1).put _
  have hS2 : Sg (W1.putObj l (.loop (r0 .busy none))) W.heap.size SB := ⟨(World.putObj_heap_other (by omega)).trans hS1.blk, hB⟩
  have hd2 := hd.bt b2 (k := Bd)
  have hdd : Bk (W1.putObj l (.loop (r0 .busy none))) Bd #[.int .i64 d] 3 := (World.putObj_heap_other h1).trans ((g1.block Bd hd.lt).trans hd)
  have hLL : Sg (W1.putObj l (.loop (r0 .busy none))) Bl SL := hL.bt b2 h3 h2
  show ∃ w₂, (Instr.beginRound l).run Tryz.prog W1 = .ok () w₂ ∧ _
  refine ⟨_, by rw [run_beginRound hl1 (hrs _ _), hrb], ?_⟩
  refine dp_body _ l n Bd W.heap.size Bl SB SL d C hdd hS2 hLL h0 (fun h W' _ => KC h W') u0 u1 u2 u3 u4 u5 u9 u10 u11 u12 u13 u14 u15 u16 u17 u18 u19 u21 u22 u23 u24 u25 u26 u27 u28 u29 u30 u31 u32 _ (fun hx a W3 g3 => ?_) (fun hx hC a W3 g3 => ?_)
  · have hl3 : W3.heap[l]? = some (.loop (r0 .busy none)) := (g3.block l (Array.getElem?_eq_some_iff.1 hl2).1).trans hl2
    refine ⟨_, _, run_endRound (some (.exit 0)) hl3, .inl ⟨hx, rfl, (b2.trans (Bt.of g3)).put _, (World.putObj_heap_other h1).trans (hdd.old g3), ?_⟩⟩
    rw [hru]
    exact World.putObj_heap_same (Array.getElem?_eq_some_iff.1 hl3).1
  · have hl3 : (W3.setCell ⟨Bd, 0, none⟩ (.int .i64 (d + 1))).heap[l]? = some (.loop (r0 .busy none)) := (heap_setCell_other W3 ⟨Bd, 0, none⟩ l _ (Ne.symm h1)).trans ((g3.block l (Array.getElem?_eq_some_iff.1 hl2).1).trans hl2)
    refine ⟨_, _, run_endRound none hl3, .inr ⟨hx, hC, rfl, ((b2.trans (Bt.of g3)).cell 0 _).put _, (World.putObj_heap_other h1).trans ?_, ?_⟩⟩
    · exact heap_setCell_same _ Bd 0 _ _ _ (hdd.old g3)
    · rw [hru]
      exact World.putObj_heap_same (Array.getElem?_eq_some_iff.1 hl3).1
end Go.Proofs.YtihjndakgncdaaaGreatDoor
