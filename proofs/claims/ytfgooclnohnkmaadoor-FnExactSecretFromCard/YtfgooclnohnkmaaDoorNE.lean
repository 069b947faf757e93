/- Proved: several texts in one: what each proves is said ahead of it. -/
import Derived.Test.YtfgooclnohnkmaaDoorK0
import Derived.Conc.LoneCalls
import Derived.Test.YtfgooclnohnkmaaDoorNA
import Derived.Test.YtfgooclnohnkmaaDoorND
import Derived.Test.YtfgooclnohnkmaaDoorKA
/- Proved: laws of communication in a call that is walked by its weakest conditions: a region of which one operation is a send into a channel with room, or a receive from one that holds something or is closed. -/
namespace Go.Proofs.YtfgooclnohnkmaaDoor
open Go.ChangeShapes Go.WideShapes Go.ChangeAt Go.RowKit
open Go.Conc
set_option linter.unusedVariables false
set_option linter.unusedSimpArgs false
/-- what a region leads to from some operation on -/
def RegC (P : Program) (ops : Array Oper) (Q : Exit → Act → World → Prop) (is : List Nat) (a : Act) (w : World) : Prop :=
  ∀ (b : Frame) (k : List Item) (cs : List Frame), ∃ e a' w', Q e a' w' ∧ Arrives P (lone (b.at a (.inRegion ops is :: k)) cs w) b k cs e a' w'
section
variable {P : Program} {ops : Array Oper} {Q : Exit → Act → World → Prop} {a : Act} {w : World} {rest : List Nat} {i : Nat} {o : Oper}
theorem wp_regc {id : Nat} (h : RegC P ops Q (List.range ops.size) a w) : (Code.region id ops false).wp P Q a w :=
  fun b k cs => let ⟨e, a', w', q, r⟩ := h b k cs; ⟨e, a', w', q, .of_steps (.one step_region) r⟩
theorem regc_end (h : wpList P ops Q [] a w) : RegC P ops Q [] a w :=
  fun b k cs => ⟨.normal, a, w, h, .one step_region_end⟩
theorem regc_op (ho : ops[i]? = some o) (hw : Region.wanted o (yielded ops a.tmps) = true)
    (h : ∀ K : Act → World → Prop, (∀ a' w', RegC P ops Q rest a' w' → K a' w') → uponK o a K ((execOp a.eval o).run P w)) : RegC P ops Q (i :: rest) a w := by
  intro b k cs
  have h' := h _ (fun _ _ x => x)
  have hg := stepG_op (P := P) (b := b) (k := k) (cs := cs) (w := w) (rest := rest) ho hw
  have hfin : ∀ v, (b.at a (.inRegion ops (i :: rest) :: k)).finish v = b.at (a.put o.dst v) (.inRegion ops rest :: k) := by
    intro v; rw [Frame.finish_at, ho]; rfl
  generalize hr : (execOp a.eval o).run P w = r at h'
  match r, h' with
  | .ok (.value v) w', h' =>
    obtain ⟨e, a', w'', hq, harr⟩ := h' b k cs
    refine ⟨e, a', w'', hq, .of_steps (.one (step_lone_go ?_)) harr⟩
    rw [hg, ← hfin]; simp [stepG.apply, hr]
  | .ok .skip w', h' =>
    obtain ⟨e, a', w'', hq, harr⟩ := h' b k cs
    refine ⟨e, a', w'', hq, .of_steps (.one (step_lone_go ?_)) harr⟩
    rw [hg, ← hfin]; simp [stepG.apply, hr]
theorem comm_step {b : Frame} {k : List Item} {cs : List Frame} {cases : Array CommCase} {blocking : Bool} {shape : CommShape} {w' : World} (ho : ops[i]? = some o) (hw : Region.wanted o (yielded ops a.tmps) = true)
    (hr : (execOp a.eval o).run P w = .ok (.comm cases blocking shape) w') :
    ∃ es, stepG P true (G (b.at a (.inRegion ops (i :: rest) :: k)) cs) w = .comm (G (b.at a (.inRegion ops (i :: rest) :: k)) cs) cases blocking shape w' es := by
  rw [stepG_oper ho hw]
  simp [stepG.apply, hr, G, Frame.at, GStep.after]
theorem regc_send {c cap s r : Nat} {buf : Array Value} {tm : Bool} {v z : Value} (ho : ops[i]? = some o) (hw : Region.wanted o (yielded ops a.tmps) = true)
    (hr : (execOp a.eval o).run P w = .ok (.comm #[scase c v z] true .send) w) (hc : w.heap[c]? = some (.chan cap buf false s r tm)) (hroom : buf.size < cap)
    (h : RegC P ops Q rest (a.put o.dst undef) (w.setChan c cap (buf.push v) false (s + 1) r tm)) : RegC P ops Q (i :: rest) a w := by
  intro b k cs
  obtain ⟨es, hs⟩ := comm_step (b := b) (k := k) (cs := cs) (rest := rest) ho hw hr
  obtain ⟨e, a', w'', hq, harr⟩ := h b k cs
  have st := step_lone_send_room hs hc hroom
  rw [Frame.finish_at, ho] at st
  exact ⟨e, a', w'', hq, .of_steps (.one st) harr⟩
theorem regc_recv {c cap s r : Nat} {buf : Array Value} {tm closed : Bool} {z : Value} (ho : ops[i]? = some o) (hw : Region.wanted o (yielded ops a.tmps) = true)
    (hr : (execOp a.eval o).run P w = .ok (.comm #[rcase c z] true (.recv true)) w) (hc : w.heap[c]? = some (.chan cap buf closed s r tm)) (hsome : 0 < buf.size)
    (h : RegC P ops Q rest (a.put o.dst (.tuple #[buf.getD 0 undef, .bool true])) (w.setChan c cap (buf.extract 1 buf.size) closed s (r + 1) tm)) : RegC P ops Q (i :: rest) a w := by
  intro b k cs
  obtain ⟨es, hs⟩ := comm_step (b := b) (k := k) (cs := cs) (rest := rest) ho hw hr
  obtain ⟨e, a', w'', hq, harr⟩ := h b k cs
  have st := step_lone_recv_buf true hs hc hsome
  rw [Frame.finish_at, ho] at st
  exact ⟨e, a', w'', hq, .of_steps (.one st) harr⟩
theorem regc_shut {c cap s r : Nat} {tm : Bool} {z : Value} (ho : ops[i]? = some o) (hw : Region.wanted o (yielded ops a.tmps) = true)
    (hr : (execOp a.eval o).run P w = .ok (.comm #[rcase c z] true (.recv true)) w) (hc : w.heap[c]? = some (.chan cap #[] true s r tm))
    (h : RegC P ops Q rest (a.put o.dst (.tuple #[z, .bool false])) w) : RegC P ops Q (i :: rest) a w := by
  intro b k cs
  obtain ⟨es, hs⟩ := comm_step (b := b) (k := k) (cs := cs) (rest := rest) ho hw hr
  obtain ⟨e, a', w'', hq, harr⟩ := h b k cs
  have st := step_lone_recv_shut true hs hc
  rw [Frame.finish_at, ho] at st
  exact ⟨e, a', w'', hq, .of_steps (.one st) harr⟩
end
end Go.Proofs.YtfgooclnohnkmaaDoor
/- Proved: the program's purse of words: how it lies in memory, and the contract of take: the next word and true, or 0 and false where the words have run out. -/
namespace Go.Proofs.YtfgooclnohnkmaaDoor
open Go.ChangeShapes Go.WideShapes Go.ChangeAt Go.RowKit
open Go.Conc
set_option linter.unusedVariables false
set_option linter.unusedSimpArgs false
/-- the words from number k on, as a channel holds them -/
def bufI (ws : List Int) (k : Nat) : Array Value := ((ws.drop k).map (Value.int .i64)).toArray
theorem bufI_get (ws : List Int) (k : Nat) (h : k < ws.length) : (bufI ws k).getD 0 undef = .int .i64 (ws.getD k 0) := by
  unfold bufI
  rw [List.drop_eq_getElem_cons h]
  simp [List.getD, h]
theorem bufI_pos (ws : List Int) (k : Nat) (h : k < ws.length) : 0 < (bufI ws k).size := by
  simp [bufI]; omega
theorem bufI_next (ws : List Int) (k : Nat) (h : k < ws.length) : (bufI ws k).extract 1 (bufI ws k).size = bufI ws (k + 1) := by
  unfold bufI
  rw [List.drop_eq_getElem_cons h]
  simp
  exact List.take_of_length_le (by simp; omega)
theorem bufI_end (ws : List Int) : bufI ws ws.length = #[] := by simp [bufI]
/-- a purse at block c + 1 whose channel lies at block c: k words of ws are taken, the others wait -/
structure Pu (w : World) (c : Nat) (ws : List Int) (k : Nat) : Prop where
  lt : c + 1 < w.heap.size
  le : k ≤ ws.length
  cells : w.heap[c + 1]? = some (.cells #[.chan (some c), .int .i64 k] 193 (0, 0))
  chan : ∃ cap s r, w.heap[c]? = some (.chan cap (bufI ws k) true s r false)
theorem Pu.old {w w' : World} {c k : Nat} {ws : List Int} (h : Pu w c ws k) (g : Old w w') : Pu w' c ws k := by
  obtain ⟨h1, h2, h3, cap, s, r, h4⟩ := h
  exact ⟨Nat.lt_of_lt_of_le h1 g.size, h2, (g.block _ h1).trans h3, cap, s, r, (g.block _ (by omega)).trans h4⟩
theorem Pu.chg {w w' : World} {c k lo hi : Nat} {ws : List Int} (h : Pu w c ws k) (g : Chg w w' lo hi) (hd : c + 2 ≤ lo ∨ hi ≤ c) : Pu w' c ws k := by
  obtain ⟨h1, h2, h3, cap, s, r, h4⟩ := h
  exact ⟨Nat.lt_of_lt_of_le h1 g.size, h2, (g.block _ h1 (by omega)).trans h3, cap, s, r, (g.block _ (by omega) (by omega)).trans h4⟩
theorem chg_setChan (w : World) (c cap : Nat) (buf : Array Value) (cl : Bool) (s r : Nat) (tm : Bool) : Chg w (w.setChan c cap buf cl s r tm) c (c + 1) :=
  ⟨rfl, rfl, rfl, by simp [World.setChan], fun k hk ho => by simp only [World.setChan]; rw [Array.getElem?_setIfInBounds_ne (by omega)]⟩
theorem chg_setCell (w : World) (b j : Nat) (v : Value) : Chg w (w.setCell ⟨b, j, none⟩ v) b (b + 1) :=
  ⟨rfl, rfl, rfl, by simp [World.setCell], fun k hk ho => heap_setCell_other w ⟨b, j, none⟩ k v (by show k ≠ b; omega)⟩
theorem Pu.took {w : World} {c k : Nat} {ws : List Int} (h : Pu w c ws k) (hk : k < ws.length) {cap s r : Nat} :
    Pu ((w.setChan c cap (bufI ws (k + 1)) true s r false).setCell ⟨c + 1, 1, none⟩ (.int .i64 ((k : Int) + 1))) c ws (k + 1) := by
  obtain ⟨h1, h2, h3, _⟩ := h
  have e1 : (w.setChan c cap (bufI ws (k + 1)) true s r false).heap[c + 1]? = some (.cells #[.chan (some c), .int .i64 k] 193 (0, 0)) := by
    rw [← h3]; simp only [World.setChan]; rw [Array.getElem?_setIfInBounds_ne (by omega)]
  refine ⟨?_, by omega, ?_, cap, s, r, ?_⟩
  · rw [World.size_setCell, size_setChan]; exact h1
  · rw [heap_setCell_same _ _ _ _ _ _ e1]; rfl
  · rw [heap_setCell_other _ _ _ _ (by show c ≠ c + 1; omega), heap_setChan _ _ _ _ _ _ _ _ (by omega)]
set_option maxRecDepth 100000 in
set_option maxHeartbeats 2000000 in
theorem take_some (ws : List Int) (c k : Nat) (w : World) (h : Pu w c ws k) (hk : k < ws.length) (hl : ws.length ≤ 4000) :
    Calls Tryd.prog 178 #[.pointer (some ⟨c + 1, 0, none⟩)] w fun e w' => e = .returned (.tuple #[.int .i64 (ws.getD k 0), .bool true]) ∧ Chg w w' c (c + 2) ∧ Pu w' c ws (k + 1) := by
  have HP : Hid (Pu w c ws k) := h
  obtain ⟨h1, h2, h3, cap, s, r, h4⟩ := h
  have hc0 : w.cell? ⟨c + 1, 0, none⟩ = some (.chan (some c)) := by rw [cell_of_row _ _ _ _ _ _ h3]; rfl
  have hc1 : (w.setChan c cap (bufI ws (k + 1)) true s (r + 1) false).cell? ⟨c + 1, 1, none⟩ = some (.int .i64 k) := by
    rw [cell_of_row _ (c + 1) 1 #[.chan (some c), .int .i64 k] 193 (0, 0) (by rw [← h3]; simp only [World.setChan]; rw [Array.getElem?_setIfInBounds_ne (by omega)])]; rfl
  have hf1 : (w.setChan c cap (bufI ws (k + 1)) true s (r + 1) false).frozen? ⟨c + 1, 1, none⟩ = false := 
    frozen_of_row _ (c + 1) 1 #[.chan (some c), .int .i64 k] 193 (by rw [← h3]; simp only [World.setChan]; rw [Array.getElem?_setIfInBounds_ne (by omega)])
  have HF : Hid (Pu ((w.setChan c cap (bufI ws (k + 1)) true s (r + 1) false).setCell ⟨c + 1, 1, none⟩ (.int .i64 ((k : Int) + 1))) c ws (k + 1)) := HP.out.took (cap := cap) (s := s) (r := r + 1) hk
  have H4 : Hid (w.heap[c]? = some (.chan cap (bufI ws k) true s r false)) := h4
  have HX : Hid ((bufI ws k).getD 0 undef = .int .i64 (ws.getD k 0)) := bufI_get ws k hk
  have HN : Hid ((bufI ws k).extract 1 (bufI ws k).size = bufI ws (k + 1)) := bufI_next ws k hk
  have HS : Hid (0 < (bufI ws k).size) := bufI_pos ws k hk
  clear h1 h2 h3 h4
  generalize ws.getD k 0 = x at HX ⊢
  go_enter Tryd.func178, Tryd.ntmps178
  iterate 13 go_step
  refine wp_regc (id := 1) ?_
  simp only [List.size_toArray, List.length_cons, List.length_nil, Nat.reduceAdd, Nat.zero_add, List.range, List.range.loop]
  iterate 4 (refine regc_op rfl rfl (fun K hK => ?_); go_simp; refine hK _ _ ?_; clear hK K)
  refine regc_recv (c := c) (cap := cap) (s := s) (r := r) (buf := bufI ws k) (tm := false) (closed := true) (z := .int .i64 0) rfl rfl (by simp [go_sem, rcase, Act.eval]) H4.out HS.out ?_
  rw [HX.out, HN.out]
  iterate 5 (refine regc_op rfl rfl (fun K hK => ?_); go_simp; refine hK _ _ ?_; clear hK K)
  refine regc_end ?_
  go_wp2_with fail
  go_ret2
  exact ⟨rfl, ((chg_setChan w c cap _ _ _ _ _).wide (Nat.le_refl _) (by omega)).trans ((chg_setCell _ (c + 1) 1 _).wide (by omega) (Nat.le_refl _)), HF.out⟩
set_option maxRecDepth 100000 in
set_option maxHeartbeats 2000000 in
theorem take_none (ws : List Int) (c : Nat) (w : World) (h : Pu w c ws ws.length) :
    Calls Tryd.prog 178 #[.pointer (some ⟨c + 1, 0, none⟩)] w fun e w' => e = .returned (.tuple #[.int .i64 0, .bool false]) ∧ w' = w := by
  obtain ⟨h1, h2, h3, cap, s, r, h4⟩ := h
  rw [bufI_end] at h4
  have hc0 : w.cell? ⟨c + 1, 0, none⟩ = some (.chan (some c)) := by rw [cell_of_row _ _ _ _ _ _ h3]; rfl
  have H4 : Hid (w.heap[c]? = some (.chan cap #[] true s r false)) := h4
  clear h1 h2 h3 h4
  go_enter Tryd.func178, Tryd.ntmps178
  iterate 13 go_step
  refine wp_regc (id := 1) ?_
  simp only [List.size_toArray, List.length_cons, List.length_nil, Nat.reduceAdd, Nat.zero_add, List.range, List.range.loop]
  iterate 4 (refine regc_op rfl rfl (fun K hK => ?_); go_simp; refine hK _ _ ?_; clear hK K)
  refine regc_shut (c := c) (cap := cap) (s := s) (r := r) (tm := false) (z := .int .i64 0) rfl rfl (by simp [go_sem, rcase, Act.eval]) H4.out ?_
  iterate 5 (refine regc_op rfl rfl (fun K hK => ?_); go_simp; refine hK _ _ ?_; clear hK K)
  refine regc_end ?_
  go_wp2_with fail
  go_ret2
  exact ⟨rfl, rfl⟩
end Go.Proofs.YtfgooclnohnkmaaDoor
/- Proved: the contract of purseOf: the words from some number on wait in a channel that is closed behind them. -/
namespace Go.Proofs.YtfgooclnohnkmaaDoor
open Go.ChangeShapes Go.WideShapes Go.ChangeAt Go.RowKit
open Go.Conc
set_option linter.unusedVariables false
set_option linter.unusedSimpArgs false
theorem bytesInt : ∃ i, Tryd.prog.info? 3 = some i ∧ i.bytes = 8 := by
  obtain ⟨i0, hi, hz0, hz1, hz2⟩ := info_parts Tryd.infoInt
  exact ⟨i0, hi, hz2⟩
theorem make_chan (w : World) (n : Nat) (hn : n ≤ 4000) : (Instr.makeChan 194 (.int .i64 n)).run Tryd.prog w = .ok (.chan (some w.heap.size)) (w.alloc (.chan n #[] false 0 0 false)) := by
  obtain ⟨i, hi, hb⟩ := bytesInt
  exact run_makeChan (P := Tryd.prog) (w := w) Tryd.underlying194 hi .i64 n (by omega) (by rw [hb]; omega)
/-- j words from number k on -/
def bufN (ws : List Int) (k j : Nat) : Array Value := (((ws.drop k).take j).map (Value.int .i64)).toArray
theorem bufN_push (ws : List Int) (k j : Nat) (h : k + j < ws.length) : (bufN ws k j).push (.int .i64 (ws.getD (k + j) 0)) = bufN ws k (j + 1) := by
  unfold bufN
  rw [List.take_add_one]
  simp [List.getD, h]
theorem bufN_size (ws : List Int) (k j : Nat) (h : k + j ≤ ws.length) : (bufN ws k j).size = j := by simp [bufN]; omega
theorem bufN_all (ws : List Int) (k n : Nat) (h : ws.length = k + n) : bufN ws k n = bufI ws k := by
  unfold bufN bufI
  rw [List.take_of_length_le (by simp; omega)]
theorem old_setChan {a w : World} (h : Old a w) {c : Nat} (hc : a.heap.size ≤ c) (cap : Nat) (buf : Array Value) (cl : Bool) (s r : Nat) (tm : Bool) : Old a (w.setChan c cap buf cl s r tm) := below_setChan h hc cap buf cl s r tm
set_option maxRecDepth 100000 in
set_option maxHeartbeats 2000000 in
theorem purseOf_some (ws : List Int) (b o cap at_ n : Nat) (w : World) (hb : b < w.heap.size) (hc : ∀ j, j < ws.length → w.cell? ⟨b, o + j, none⟩ = some (.int .i64 (ws.getD j 0))) (hcap : ws.length ≤ cap) (hl : ws.length ≤ 4000) (hn : ws.length = at_ + n) :
    Calls Tryd.prog 168 #[.slice (some ⟨b, o, none⟩) ws.length cap, .int .i64 at_] w fun e w' => e = .returned (.pointer (some ⟨w.heap.size + 1, 0, none⟩)) ∧ Old w w' ∧ Pu w' w.heap.size ws at_ := by
  have HC : Hid (∀ j, j < ws.length → w.cell? ⟨b, o + j, none⟩ = some (.int .i64 (ws.getD j 0))) := hc
  have HL : Hid (ws.length = at_ + n) := hn
  have hmk := make_chan w n (by omega)
  have e1 : (ws.length : Int) - (at_ : Int) = (n : Int) := by omega
  have d1 : decide ((at_ : Int) < 0) = false := decide_eq_false (by omega)
  have e3 : ws.length - at_ = n := by omega
  have b1 : at_ ≤ ws.length := by omega
  have b2 : n ≤ 4000 := by omega
  clear hn hc
  by_cases hca : cap = at_
  · have hn0 : n = 0 := by omega
    subst hn0
    subst hca
    have e4 : ws.length = cap := by omega
    have hmk0 : (Instr.makeChan 194 (.int .i64 0)).run Tryd.prog w = .ok (.chan (some w.heap.size)) (w.alloc (.chan 0 #[] false 0 0 false)) := make_chan w 0 (by omega)
    have HE : Hid (bufI ws cap = #[]) := by rw [← e4]; exact bufI_end ws
    rw [e4]
    clear hmk HC HL e1 e3 b2 hcap
    have hl' : cap ≤ 4000 := by omega
    have HX : Hid (ws.length = cap) := e4
    clear e4 hl b1
    have hcl := fun ats ty => run_close_open (P := Tryd.prog) (w := w.alloc (.chan 0 #[] false 0 0 false)) ats ty (heap_alloc_new _ _)
    go_enter Tryd.func168, Tryd.ntmps168
    go_wp2_with fail
    refine wp_loop_rounds 1 ?_
    rw [rounds_succ]
    go_wp2_with fail
    go_ret
    have hz : (w.alloc (.chan 0 #[] false 0 0 false)).heap.size = w.heap.size + 1 := by simp
    refine ⟨rfl, ?_, ?_⟩
    · exact (old_setChan ((Old.refl w).alloc (.chan 0 #[] false 0 0 false)) (Nat.le_refl _) 0 #[] true 0 0 false).alloc _
    · refine ⟨?_, by rw [HX.out]; exact Nat.le_refl _, ?_, 0, 0, 0, ?_⟩
      · show _ < (World.alloc _ _).heap.size
        simp
      · have := heap_alloc_new ((w.alloc (.chan 0 #[] false 0 0 false)).setChan w.heap.size 0 #[] true 0 0 false) (.cells #[.chan (some w.heap.size), .int .i64 cap] 193)
        rw [size_setChan, hz] at this
        exact this
      · have := heap_alloc_old ((w.alloc (.chan 0 #[] false 0 0 false)).setChan w.heap.size 0 #[] true 0 0 false) (.cells #[.chan (some w.heap.size), .int .i64 cap] 193) (r := w.heap.size) (by rw [size_setChan, hz]; omega)
        rw [HE.out]
        exact this.trans (heap_setChan _ _ _ _ _ _ _ _ (by rw [hz]; omega))
  · go_enter Tryd.func168, Tryd.ntmps168
    go_wp2_with fail
    go_loopw [17] (fun i W => ∃ j : Nat, j ≤ n ∧ i = .int .i64 j ∧ Hid (W.heap[w.heap.size]? = some (.chan n (bufN ws at_ j) false j 0 false)) ∧ Hid (Old w W) ∧ Hid (W.heap.size = w.heap.size + 1)) (fun i _ => n - (intOf i).toNat)
    case atStart => exact ⟨0, by omega, rfl, heap_alloc_new _ _, (Old.refl w).alloc _, by show (w.alloc _).heap.size = _; simp⟩
    case round =>
      obtain ⟨j, hj, rfl, HQ, HG, HZ⟩ := hrel
      clear hmk
      by_cases hlt : j < n
      · have dl : decide ((j : Int) < (n : Int)) = true := by simp; omega
        have c1 : wr.cell? ⟨b, o + at_ + j, none⟩ = some (.int .i64 (ws.getD (at_ + j) 0)) := by
          rw [Nat.add_assoc]
          exact (HG.out.cell (p := ⟨b, o + (at_ + j), none⟩) hb).trans (HC.out (at_ + j) (by have := HL.out; omega))
        have HPu : Hid ((bufN ws at_ j).push (.int .i64 (ws.getD (at_ + j) 0)) = bufN ws at_ (j + 1)) := bufN_push ws at_ j (by have := HL.out; omega)
        have HSz : Hid ((bufN ws at_ j).size < n) := by show _ < n; rw [bufN_size ws at_ j (by have := HL.out; omega)]; exact hlt
        generalize ws.getD (at_ + j) 0 = x at c1 HPu
        iterate 30 go_step
        refine wp_regc (id := 5) ?_
        simp only [List.size_toArray, List.length_cons, List.length_nil, Nat.reduceAdd, Nat.zero_add, List.range, List.range.loop]
        iterate 2 (refine regc_op rfl rfl (fun K hK => ?_); go_simp; refine hK _ _ ?_; clear hK K)
        refine regc_send (c := w.heap.size) (cap := n) (s := j) (r := 0) (buf := bufN ws at_ j) (tm := false) (v := .int .i64 x) (z := .tuple #[]) rfl rfl (by simp [execOp, scase, Act.eval]) HQ.out HSz.out ?_
        rw [HPu.out]
        refine regc_end ?_
        go_wp2_with fail
        exact ⟨⟨j + 1, by omega, by go_num, heap_setChan _ _ _ _ _ _ _ _ (by rw [HZ.out]; omega), old_setChan HG.out (Nat.le_refl _) _ _ _ _ _ _, by show (World.setChan _ _ _ _ _ _ _ _).heap.size = _; rw [size_setChan]; exact HZ.out⟩, by simp [intOf]; omega⟩
      · have dl : decide ((j : Int) < (n : Int)) = false := by simp; omega
        obtain rfl : j = n := by omega
        have hcl := fun ats ty => run_close_open (P := Tryd.prog) (w := wr) ats ty HQ.out
        have HE : Hid (bufN ws at_ j = bufI ws at_) := bufN_all ws at_ j HL.out
        go_wp2_with fail
        go_ret
        rw [HZ.out, HE.out]
        refine ⟨rfl, ?_, ?_⟩
        · exact (old_setChan HG.out (Nat.le_refl _) j (bufI ws at_) true j 0 false).alloc _
        · refine ⟨?_, b1, ?_, j, j, 0, ?_⟩
          · show _ < (World.alloc _ _).heap.size
            simp [HZ.out]
          · have := heap_alloc_new (wr.setChan w.heap.size j (bufI ws at_) true j 0 false) (.cells #[.chan (some w.heap.size), .int .i64 at_] 193)
            rw [size_setChan, HZ.out] at this
            exact this
          · have := heap_alloc_old (wr.setChan w.heap.size j (bufI ws at_) true j 0 false) (.cells #[.chan (some w.heap.size), .int .i64 at_] 193) (r := w.heap.size) (by rw [size_setChan, HZ.out]; omega)
            exact this.trans (heap_setChan _ _ _ _ _ _ _ _ (by rw [HZ.out]; omega))
set_option maxRecDepth 100000 in
set_option maxHeartbeats 2000000 in
theorem purseOf_none (a : Option Addr) (cap : Nat) (w : World) :
    Calls Tryd.prog 168 #[.slice a 0 cap, .int .i64 0] w fun e w' => e = .returned (.pointer (some ⟨w.heap.size + 1, 0, none⟩)) ∧ Old w w' ∧ Pu w' w.heap.size [] 0 := by
  have hmk0 : (Instr.makeChan 194 (.int .i64 0)).run Tryd.prog w = .ok (.chan (some w.heap.size)) (w.alloc (.chan 0 #[] false 0 0 false)) := make_chan w 0 (by omega)
  have hcl := fun ats ty => run_close_open (P := Tryd.prog) (w := w.alloc (.chan 0 #[] false 0 0 false)) ats ty (heap_alloc_new _ _)
  go_enter Tryd.func168, Tryd.ntmps168
  go_wp2_with fail
  all_goals (
    refine wp_loop_rounds 1 ?_
    rw [rounds_succ]
    go_wp2_with fail
    go_ret
    have hz : (w.alloc (.chan 0 #[] false 0 0 false)).heap.size = w.heap.size + 1 := by simp
    refine ⟨rfl, ?_, ?_⟩
    · exact (old_setChan ((Old.refl w).alloc (.chan 0 #[] false 0 0 false)) (Nat.le_refl _) 0 #[] true 0 0 false).alloc _
    · refine ⟨?_, Nat.le_refl _, ?_, 0, 0, 0, ?_⟩
      · show _ < (World.alloc _ _).heap.size
        simp
      · have := heap_alloc_new ((w.alloc (.chan 0 #[] false 0 0 false)).setChan w.heap.size 0 #[] true 0 0 false) (.cells #[.chan (some w.heap.size), .int .i64 0] 193)
        rw [size_setChan, hz] at this
        exact this
      · have := heap_alloc_old ((w.alloc (.chan 0 #[] false 0 0 false)).setChan w.heap.size 0 #[] true 0 0 false) (.cells #[.chan (some w.heap.size), .int .i64 0] 193) (r := w.heap.size) (by rw [size_setChan, hz]; omega)
        exact this.trans (heap_setChan _ _ _ _ _ _ _ _ (by rw [hz]; omega)))
/-- a slice's length is at most its capacity -/
def Fit7 : Value → Prop
  | .slice _ n c => n ≤ c
  | _ => True
theorem purseOf_any (ws : List Int) (v : Value) (at_ : Nat) (w : World) (h : Row w v ws) (hf : Fit7 v) (hl : ws.length ≤ 4000) (ha : at_ ≤ ws.length) :
    Calls Tryd.prog 168 #[v, .int .i64 at_] w fun e w' => e = .returned (.pointer (some ⟨w.heap.size + 1, 0, none⟩)) ∧ Old w w' ∧ Pu w' w.heap.size ws at_ := by
  rcases h with ⟨a, cap, rfl, rfl⟩ | ⟨b, o, cap, rfl, hb, h0, hc⟩
  · obtain rfl : at_ = 0 := by simpa using ha
    exact purseOf_none a cap w
  · exact purseOf_some ws b o cap at_ (ws.length - at_) w hb hc hf hl (by omega)
end Go.Proofs.YtfgooclnohnkmaaDoor
/- Proved: contracts of the tests of chapter 7: whether words are words (areWords, l7Words), and whether one may draw (mayDraw). -/
namespace Go.Proofs.YtfgooclnohnkmaaDoor
open Go.ChangeShapes Go.WideShapes Go.ChangeAt Go.RowKit
set_option linter.unusedVariables false
set_option linter.unusedSimpArgs false
/-- a word -/
def wd (x : Int) : Bool := decide (0 ≤ x) && decide (x < 4294967296)
/-- every one is a word -/
def wdB (ws : List Int) : Bool := ws.all wd
/-- words: not too many, and each is one -/
def wsB (ws : List Int) : Bool := decide (ws.length ≤ 4000) && wdB ws
theorem wdB_get {ws : List Int} (h : wdB ws = true) (k : Nat) (hk : k < ws.length) : 0 ≤ ws.getD k 0 ∧ ws.getD k 0 < 4294967296 := by
  have := List.all_eq_true.1 h (ws.getD k 0) (by simp [List.getD, hk])
  simpa [wd] using this
theorem wdB_yes {ws : List Int} (h : ∀ k, k < ws.length → wd (ws.getD k 0) = true) : wdB ws = true := by
  refine List.all_eq_true.2 (fun x hx => ?_)
  obtain ⟨k, hk, rfl⟩ := List.getElem_of_mem hx
  have := h k hk
  simpa [List.getD, hk] using this
theorem wdB_no {ws : List Int} (k : Nat) (hk : k < ws.length) (h : wd (ws.getD k 0) = false) : wdB ws = false := by
  refine Bool.eq_false_iff.2 (fun e => ?_)
  have := List.all_eq_true.1 e (ws.getD k 0) (by simp [List.getD, hk])
  rw [h] at this
  cases this
theorem resB_wd (x : Int) : resB x 4294967296 = wd x := rfl
theorem inQ_wd (x : Int) : inQ x 0 4294967295 = wd x := by
  unfold inQ wd
  by_cases h : x ≤ 4294967295
  · rw [decide_eq_true h, decide_eq_true (show x < 4294967296 by omega)]
  · rw [decide_eq_false h, decide_eq_false (show ¬ x < 4294967296 by omega)]
set_option maxRecDepth 100000 in
set_option maxHeartbeats 2000000 in
theorem areWords_any (ws : List Int) (v : Value) (w : World) (h : Row w v ws) (hl : ws.length ≤ 9223372036854775807) :
    Calls Tryd.prog 177 #[v] w fun e w' => e = .returned (.bool (wsB ws)) ∧ w' = w := by
  by_cases hbig : 4000 < ws.length
  · have hR : wsB ws = false := by simp [wsB]; omega
    rw [hR]
    obtain ⟨a, cap, rfl⟩ := h.slice
    have d1 : decide ((4000 : Int) < (ws.length : Int)) = true := decide_eq_true (by omega)
    clear hR h
    go_enter Tryd.func177, Tryd.ntmps177
    go_wp2_with fail
    go_ret
    exact ⟨rfl, rfl⟩
  · have d1 : decide ((4000 : Int) < (ws.length : Int)) = false := decide_eq_false (by omega)
    have HR : Hid (wsB ws = wdB ws) := by show wsB ws = wdB ws; simp [wsB]; omega
    have bl : ws.length ≤ 4000 := by omega
    clear hbig hl
    rcases h with ⟨a, cap, rfl, rfl⟩ | ⟨b, o, cap, rfl, hb, h0, hc⟩
    · go_enter Tryd.func177, Tryd.ntmps177
      go_wp2_with fail
      refine wp_loop_rounds 1 ?_
      rw [rounds_succ]
      go_wp2_with fail
      go_ret
      exact ⟨rfl, rfl⟩
    · have HC : Hid (∀ j, j < ws.length → w.cell? ⟨b, o + j, none⟩ = some (.int .i64 (ws.getD j 0))) := hc
      clear hc h0 hb
      go_enter Tryd.func177, Tryd.ntmps177
      go_wp2_with fail
      go_loopw [10] (fun i W => ∃ k : Nat, k ≤ ws.length ∧ i = .int .i64 k ∧ W = w ∧ Hid (∀ j, j < k → wd (ws.getD j 0) = true)) (fun i _ => ws.length - (intOf i).toNat)
      case atStart => exact ⟨0, by omega, rfl, rfl, fun j hj => absurd hj (by omega)⟩
      case round =>
        obtain ⟨k, hk, rfl, rfl, HW⟩ := hrel
        by_cases hlt : k < ws.length
        · have dl : decide ((k : Int) < (ws.length : Int)) = true := by simp; omega
          have c1 := HC.out k hlt
          cases hx : wd (ws.getD k 0)
          · have HF : Hid (wdB ws = false) := wdB_no k hlt hx
            have K1 : ∀ W, Calls Tryd.prog 65 #[.int .i64 (ws.getD k 0), .int .i64 4294967296] W fun e w' => e = .returned (.bool false) ∧ w' = W := fun W => by
              have := residue_any (ws.getD k 0) 4294967296 W
              rw [resB_wd, hx] at this
              exact this
            clear hx HW
            generalize ws.getD k 0 = x at c1 K1
            go_wp2_with fail
            refine (K1 _).mono ?_
            rintro e w' ⟨rfl, rfl⟩
            go_wp2_with fail
            go_ret
            exact ⟨by rw [HR.out, HF.out]; rfl, rfl⟩
          · have HF : Hid (∀ j, j < k + 1 → wd (ws.getD j 0) = true) := fun j hj => by
              rcases Nat.lt_or_ge j k with h1 | h1
              · exact HW.out j h1
              · obtain rfl : j = k := by omega
                exact hx
            have K1 : ∀ W, Calls Tryd.prog 65 #[.int .i64 (ws.getD k 0), .int .i64 4294967296] W fun e w' => e = .returned (.bool true) ∧ w' = W := fun W => by
              have := residue_any (ws.getD k 0) 4294967296 W
              rw [resB_wd, hx] at this
              exact this
            clear hx HW
            generalize ws.getD k 0 = x at c1 K1
            go_wp2_with fail
            refine (K1 _).mono ?_
            rintro e w' ⟨rfl, hw⟩
            obtain rfl := hw
            go_wp2_with fail
            exact ⟨⟨k + 1, by omega, by go_num, by trivial, HF⟩, by simp [intOf]; omega⟩
        · have dl : decide ((k : Int) < (ws.length : Int)) = false := by simp; omega
          have HF : Hid (wdB ws = true) := wdB_yes (fun j hj => HW.out j (by omega))
          go_wp2_with fail
          go_ret
          exact ⟨by rw [HR.out, HF.out]; rfl, rfl⟩
set_option maxRecDepth 100000 in
set_option maxHeartbeats 2000000 in
theorem l7Words_any (ws : List Int) (v : Value) (at_ : Int) (w : World) (h : Row w v ws) (hl : ws.length ≤ 9223372036854775807) :
    Calls Tryd.prog 111 #[v, .int .i64 at_] w fun e w' => e = .returned (.bool (wsB ws && inQ at_ 0 ws.length)) ∧ w' = w := by
  by_cases hbig : 4000 < ws.length
  · have hR : wsB ws = false := by simp [wsB]; omega
    rw [hR, Bool.false_and]
    obtain ⟨a, cap, rfl⟩ := h.slice
    have d1 : decide ((4000 : Int) < (ws.length : Int)) = true := decide_eq_true (by omega)
    clear hR h
    go_enter Tryd.func111, Tryd.ntmps111
    go_wp2_with fail
    go_ret
    exact ⟨rfl, rfl⟩
  · have d1 : decide ((4000 : Int) < (ws.length : Int)) = false := decide_eq_false (by omega)
    have HR : Hid (wsB ws = wdB ws) := by show wsB ws = wdB ws; simp [wsB]; omega
    have bl : ws.length ≤ 4000 := by omega
    clear hbig hl
    have hK0 : ∀ W, Calls Tryd.prog 76 #[.int .i64 at_, .int .i64 0, .int .i64 (ws.length : Int)] W fun e w' => e = .returned (.bool (inQ at_ 0 ws.length)) ∧ w' = W := fun W => in_any at_ 0 ws.length W
    cases ha : inQ at_ 0 ws.length
    · rw [ha] at hK0
      rw [Bool.and_false]
      obtain ⟨a, cap, rfl⟩ := h.slice
      clear ha h
      go_enter Tryd.func111, Tryd.ntmps111
      go_wp2_with fail
      refine (hK0 _).mono ?_
      rintro e w' ⟨rfl, rfl⟩
      go_wp2_with fail
      go_ret
      exact ⟨rfl, rfl⟩
    rw [ha] at hK0
    rw [Bool.and_true]
    have K0 : Hid (∀ W, Calls Tryd.prog 76 #[.int .i64 at_, .int .i64 0, .int .i64 (ws.length : Int)] W fun e w' => e = .returned (.bool true) ∧ w' = W) := hK0
    clear ha hK0
    rcases h with ⟨a, cap, rfl, rfl⟩ | ⟨b, o, cap, rfl, hb, h0, hc⟩
    · go_enter Tryd.func111, Tryd.ntmps111
      go_wp2_with fail
      refine (K0.out _).mono ?_
      rintro e w0 ⟨rfl, hw0⟩
      obtain rfl := hw0.symm
      go_wp2_with fail
      refine wp_loop_rounds 1 ?_
      rw [rounds_succ]
      go_wp2_with fail
      go_ret
      exact ⟨rfl, rfl⟩
    · have HC : Hid (∀ j, j < ws.length → w.cell? ⟨b, o + j, none⟩ = some (.int .i64 (ws.getD j 0))) := hc
      clear hc h0 hb
      go_enter Tryd.func111, Tryd.ntmps111
      go_wp2_with fail
      refine (K0.out _).mono ?_
      rintro e w0 ⟨rfl, hw0⟩
      obtain rfl := hw0.symm
      go_wp2_with fail
      go_loopw [19] (fun i W => ∃ k : Nat, k ≤ ws.length ∧ i = .int .i64 k ∧ W = w ∧ Hid (∀ j, j < k → wd (ws.getD j 0) = true)) (fun i _ => ws.length - (intOf i).toNat)
      case atStart => exact ⟨0, by omega, rfl, rfl, fun j hj => absurd hj (by omega)⟩
      case round =>
        obtain ⟨k, hk, rfl, rfl, HW⟩ := hrel
        by_cases hlt : k < ws.length
        · have dl : decide ((k : Int) < (ws.length : Int)) = true := by simp; omega
          have c1 := HC.out k hlt
          cases hx : wd (ws.getD k 0)
          · have HF : Hid (wdB ws = false) := wdB_no k hlt hx
            have K1 : ∀ W, Calls Tryd.prog 76 #[.int .i64 (ws.getD k 0), .int .i64 0, .int .i64 4294967295] W fun e w' => e = .returned (.bool false) ∧ w' = W := fun W => by
              have := in_any (ws.getD k 0) 0 4294967295 W
              rw [inQ_wd, hx] at this
              exact this
            clear hx HW
            generalize ws.getD k 0 = x at c1 K1
            go_wp2_with fail
            refine (K1 _).mono ?_
            rintro e w' ⟨rfl, rfl⟩
            go_wp2_with fail
            go_ret
            exact ⟨by rw [HR.out, HF.out]; rfl, rfl⟩
          · have HF : Hid (∀ j, j < k + 1 → wd (ws.getD j 0) = true) := fun j hj => by
              rcases Nat.lt_or_ge j k with h1 | h1
              · exact HW.out j h1
              · obtain rfl : j = k := by omega
                exact hx
            have K1 : ∀ W, Calls Tryd.prog 76 #[.int .i64 (ws.getD k 0), .int .i64 0, .int .i64 4294967295] W fun e w' => e = .returned (.bool true) ∧ w' = W := fun W => by
              have := in_any (ws.getD k 0) 0 4294967295 W
              rw [inQ_wd, hx] at this
              exact this
            clear hx HW
            generalize ws.getD k 0 = x at c1 K1
            go_wp2_with fail
            refine (K1 _).mono ?_
            rintro e w' ⟨rfl, hw⟩
            obtain rfl := hw
            go_wp2_with fail
            exact ⟨⟨k + 1, by omega, by go_num, by trivial, HF⟩, by simp [intOf]; omega⟩
        · have dl : decide ((k : Int) < (ws.length : Int)) = false := by simp; omega
          have HF : Hid (wdB ws = true) := wdB_yes (fun j hj => HW.out j (by omega))
          go_wp2_with fail
          go_ret
          exact ⟨by rw [HR.out, HF.out]; rfl, rfl⟩
set_option maxRecDepth 100000 in
set_option maxHeartbeats 2000000 in
theorem mayDraw_any (ws : List Int) (v : Value) (at_ n : Int) (w : World) (h : Row w v ws) (hl : ws.length ≤ 9223372036854775807) :
    Calls Tryd.prog 166 #[v, .int .i64 at_, .int .i64 n] w fun e w' => e = .returned (.bool (wsB ws && inQ at_ 0 ws.length && inQ n 0 64)) ∧ w' = w := by
  have K0 : ∀ W, W = w → Calls Tryd.prog 177 #[v] W fun e w' => e = .returned (.bool (wsB ws)) ∧ w' = W := fun W e => by subst e; exact areWords_any ws v _ h hl
  obtain ⟨a, cap, rfl⟩ := h.slice
  clear h
  unfold inQ
  cases hq : wsB ws
  · rw [hq] at K0
    go_enter Tryd.func166, Tryd.ntmps166
    go_wp2_with fail
    refine (K0 _ rfl).mono ?_
    rintro e w' ⟨rfl, rfl⟩
    go_wp2_with fail
    go_ret
    exact ⟨by simp, rfl⟩
  · rw [hq] at K0
    have s1 : ∀ x : Bool, (true && x) = x := fun x => by simp
    by_cases h1 : 0 ≤ at_
    · have d1 : decide (0 ≤ at_) = true := decide_eq_true h1
      by_cases h2 : at_ ≤ (ws.length : Int)
      · have d2 : decide (at_ ≤ (ws.length : Int)) = true := decide_eq_true h2
        by_cases h3 : 0 ≤ n
        · have d3 : decide (0 ≤ n) = true := decide_eq_true h3
          go_enter Tryd.func166, Tryd.ntmps166
          go_wp2_with fail
          refine (K0 _ rfl).mono ?_
          rintro e w' ⟨rfl, rfl⟩
          go_wp2_with fail
          go_ret
          exact ⟨by simp [d1, d2, d3], rfl⟩
        · have d3 : decide (0 ≤ n) = false := decide_eq_false h3
          go_enter Tryd.func166, Tryd.ntmps166
          go_wp2_with fail
          refine (K0 _ rfl).mono ?_
          rintro e w' ⟨rfl, rfl⟩
          go_wp2_with fail
          go_ret
          exact ⟨by simp [d1, d2, d3], rfl⟩
      · have d2 : decide (at_ ≤ (ws.length : Int)) = false := decide_eq_false h2
        go_enter Tryd.func166, Tryd.ntmps166
        go_wp2_with fail
        refine (K0 _ rfl).mono ?_
        rintro e w' ⟨rfl, rfl⟩
        go_wp2_with fail
        go_ret
        exact ⟨by simp [d1, d2], rfl⟩
    · have d1 : decide (0 ≤ at_) = false := decide_eq_false h1
      go_enter Tryd.func166, Tryd.ntmps166
      go_wp2_with fail
      refine (K0 _ rfl).mono ?_
      rintro e w' ⟨rfl, rfl⟩
      go_wp2_with fail
      go_ret
      exact ⟨by simp [d1], rfl⟩
end Go.Proofs.YtfgooclnohnkmaaDoor
/- Proved: contracts of the program's draw of a number below a modulus: words are passed over up to the first below the last multiple. -/
namespace Go.Proofs.YtfgooclnohnkmaaDoor
open Go.ChangeShapes Go.WideShapes Go.ChangeAt Go.RowKit
set_option linter.unusedVariables false
set_option linter.unusedSimpArgs false
/-- the last multiple -/
def mulM (p : Nat) : Nat := 4294967296 / p * p
theorem mulM_sub (p : Nat) : 4294967296 - 4294967296 % p = mulM p := by
  have := Nat.div_add_mod 4294967296 p
  unfold mulM
  rw [Nat.mul_comm]
  omega
theorem mulM_le (p : Nat) : mulM p ≤ 4294967296 := by rw [← mulM_sub]; omega
theorem mulM_pos (p : Nat) (h0 : 1 ≤ p) (h : p ≤ 268435456) : 0 < mulM p := by
  rw [← mulM_sub]
  have := Nat.mod_lt 4294967296 (show 0 < p by omega)
  omega
/-- number J is where the draw from number k on stops -/
structure Stp (ws : List Int) (M : Nat) (k J : Nat) : Prop where
  ge : k ≤ J
  le : J ≤ ws.length
  no : ∀ i, k ≤ i → i < J → (M : Int) ≤ ws.getD i 0
  yes : J < ws.length → ws.getD J 0 < (M : Int)
theorem Stp.next {ws : List Int} {M k J : Nat} (h : Stp ws M k J) (hk : k < ws.length) (hx : (M : Int) ≤ ws.getD k 0) : Stp ws M (k + 1) J := by
  obtain ⟨h1, h2, h3, h4⟩ := h
  have : k ≠ J := fun e => by subst e; have := h4 hk; omega
  exact ⟨by omega, h2, fun i hi hj => h3 i (by omega) hj, h4⟩
theorem Stp.here {ws : List Int} {M k J : Nat} (h : Stp ws M k J) (hx : ws.getD k 0 < (M : Int)) : k = J := by
  obtain ⟨h1, h2, h3, h4⟩ := h
  rcases Nat.lt_or_ge k J with h5 | h5
  · have := h3 k (Nat.le_refl _) h5; omega
  · omega
theorem Stp.is (ws : List Int) (M : Nat) : ∀ n k, k + n = ws.length → ∃ J, Stp ws M k J
  | 0, k, h => ⟨k, Nat.le_refl _, by omega, fun i hi hj => by omega, fun hk => by omega⟩
  | n + 1, k, h => by
    by_cases hx : ws.getD k 0 < (M : Int)
    · exact ⟨k, Nat.le_refl _, by omega, fun i hi hj => by omega, fun _ => hx⟩
    · obtain ⟨J, h1, h2, h3, h4⟩ := Stp.is ws M n (k + 1) (by omega)
      refine ⟨J, by omega, h2, fun i hi hj => ?_, h4⟩
      rcases Nat.eq_or_lt_of_le hi with e | e
      · subst e; omega
      · exact h3 i e hj
/-- the number that a purse bears -/
def nextOf (W : World) (c : Nat) : Nat := match W.cell? ⟨c + 1, 1, none⟩ with
  | some (.int _ n) => n.toNat
  | _ => 0
theorem Pu.next {w : World} {c k : Nat} {ws : List Int} (h : Pu w c ws k) : nextOf w c = k := by
  have : w.cell? ⟨c + 1, 1, none⟩ = some (.int .i64 k) := by rw [cell_of_row _ _ _ _ _ _ h.cells]; rfl
  simp [nextOf, this]
def okN : Value → Nat
  | .bool true => 1
  | _ => 0
theorem Stp.le' {ws : List Int} {M k J : Nat} (h : Stp ws M k J) : J ≤ ws.length := h.le
/-- what take leaves -/
theorem take_any (ws : List Int) (c k : Nat) (w : World) (h : Pu w c ws k) (hl : ws.length ≤ 4000) :
    Calls Tryd.prog 178 #[.pointer (some ⟨c + 1, 0, none⟩)] w fun e w' => Chg w w' c (c + 2) ∧ Hid ((k < ws.length ∧ e = .returned (.tuple #[.int .i64 (ws.getD k 0), .bool true]) ∧ Pu w' c ws (k + 1)) ∨ (k = ws.length ∧ e = .returned (.tuple #[.int .i64 0, .bool false]) ∧ Pu w' c ws k)) := by
  rcases Nat.lt_or_ge k ws.length with h1 | h1
  · exact (take_some ws c k w h h1 hl).mono fun e w' ⟨h2, h3, h4⟩ => ⟨h3, Or.inl ⟨h1, h2, h4⟩⟩
  · obtain rfl : k = ws.length := Nat.le_antisymm h.le h1
    exact (take_none ws c w h).mono fun e w' ⟨h2, h3⟩ => by
      subst h3
      exact ⟨⟨rfl, rfl, rfl, Nat.le_refl _, fun _ _ _ => rfl⟩, Or.inr ⟨rfl, h2, h⟩⟩
/-- the loop's state: the word at hand is number i, or the words have run out -/
def UnL (ws : List Int) (w : World) (c M J : Nat) (x y : Value) (W : World) : Prop :=
  Chg w W c (c + 2) ∧ ((∃ i, i < ws.length ∧ Stp ws M i J ∧ x = .int .i64 (ws.getD i 0) ∧ y = .bool true ∧ Pu W c ws (i + 1)) ∨ (J = ws.length ∧ x = .int .i64 0 ∧ y = .bool false))
/-- what a draw leaves that stops at number J -/
def UnP (ws : List Int) (w : World) (c p J : Nat) (e : Ending) (w' : World) : Prop :=
  Chg w w' c (c + 2) ∧ ((J < ws.length ∧ e = .returned (.tuple #[.int .i64 (ws.getD J 0 % p), .bool true]) ∧ Pu w' c ws (J + 1)) ∨ (J = ws.length ∧ e = .returned (.tuple #[.int .i64 0, .bool false])))
set_option maxRecDepth 100000 in
set_option maxHeartbeats 2000000 in
theorem uniform_p (ws : List Int) (c k p J : Nat) (w : World) (hw : wdB ws = true) (hl : ws.length ≤ 4000) (h : Pu w c ws k) (hp : 2 ≤ p ∧ p ≤ 268435456) (hJ : Stp ws (mulM p) k J) :
    Calls Tryd.prog 169 #[.pointer (some ⟨c + 1, 0, none⟩), .int .i64 p] w fun e w' => UnP ws w c p J e w' := by
  obtain ⟨p1, p2⟩ := hp
  obtain ⟨m, hm, m1⟩ : ∃ m, m = 4294967296 % p ∧ m < p := ⟨_, rfl, Nat.mod_lt _ (by omega)⟩
  have e1 : (4294967296 : Int).tmod (p : Int) = (m : Int) := by rw [hm]; rfl
  have e1' : (4294967296 : Int) % (p : Int) = (m : Int) := by rw [hm]; rfl
  have e2 : (4294967296 : Int) - (m : Int) = (mulM p : Int) := by rw [← mulM_sub, ← hm]; omega
  have p0 : ¬ p = 0 := by omega
  have HJ : Hid (Stp ws (mulM p) k J) := hJ
  have HP : Hid (Pu w c ws k) := h
  have HW : Hid (wdB ws = true) := hw
  have HM : Hid (mulM p ≤ 4294967296) := mulM_le p
  have m2 : 0 < mulM p := mulM_pos p (by omega) p2
  obtain ⟨M, hM⟩ : ∃ M, M = mulM p := ⟨_, rfl⟩
  rw [← hM] at e2 HJ HM m2
  have m3 : M ≤ 4294967296 := HM.out
  have kl : k ≤ ws.length := h.le
  clear hm hJ h hw hM HM
  go_enter Tryd.func169, Tryd.ntmps169
  go_wp2_with fail
  refine (take_any ws c k w HP.out hl).mono ?_
  rintro e w1 ⟨g1, t1⟩
  obtain ⟨x0, y0, rfl, HU⟩ : ∃ x0 y0, e = .returned (.tuple #[x0, y0]) ∧ Hid (UnL ws w c M J x0 y0 w1) := by
    rcases t1.out with ⟨h1, h2, h3⟩ | ⟨h1, h2, h3⟩
    · exact ⟨_, _, h2, g1, Or.inl ⟨k, h1, HJ.out, rfl, rfl, h3⟩⟩
    · exact ⟨_, _, h2, g1, Or.inr ⟨by have := HJ.out.ge; have := HJ.out.le; omega, rfl, rfl⟩⟩
  clear t1 g1 HP HJ kl
  go_wp2_with fail
  go_loopw [7, 8] (fun x y W => Hid (UnL ws w c M J x y W)) (fun x y W => 2 * (ws.length - nextOf W c) + okN y)
  case atStart => exact HU
  case round =>
    clear HU
    obtain ⟨g, ⟨i, hi, hS, rfl, rfl, hPu⟩ | ⟨hJ, rfl, rfl⟩⟩ := hrel.out
    · clear hrel
      have HG : Hid (Chg w wr c (c + 2)) := g
      have HS : Hid (Stp ws M i J) := hS
      have HQ : Hid (Pu wr c ws (i + 1)) := hPu
      have hX := wdB_get HW.out i hi
      obtain ⟨x1, x2⟩ := hX
      clear g hS hPu
      by_cases hx : (M : Int) ≤ ws.getD i 0
      · have d1 : decide ((M : Int) ≤ ws.getD i 0) = true := decide_eq_true hx
        have HS1 : Hid (Stp ws M (i + 1) J) := HS.out.next hi hx
        have HNx : Hid (nextOf wr c = i + 1) := HQ.out.next
        clear HS
        generalize ws.getD i 0 = X at *
        go_wp2_with fail
        refine (take_any ws c (i + 1) wr HQ.out hl).mono ?_
        rintro e w2 ⟨g2, t2⟩
        obtain ⟨x3, y3, rfl, HU, HD⟩ : ∃ x0 y0, e = .returned (.tuple #[x0, y0]) ∧ Hid (UnL ws w c M J x0 y0 w2) ∧ Hid (2 * (ws.length - nextOf w2 c) + okN y0 < 2 * (ws.length - nextOf wr c) + 1) := by
          rcases t2.out with ⟨h1, h2, h3⟩ | ⟨h1, h2, h3⟩
          · refine ⟨_, _, h2, ⟨HG.out.trans g2, Or.inl ⟨i + 1, h1, HS1.out, rfl, rfl, h3⟩⟩, ?_⟩
            show _ < _
            rw [HNx.out, h3.next]
            simp [okN]; omega
          · refine ⟨_, _, h2, ⟨HG.out.trans g2, Or.inr ⟨by have := HS1.out.ge; have := HS1.out.le; omega, rfl, rfl⟩⟩, ?_⟩
            show _ < _
            rw [HNx.out, h3.next]
            simp [okN]
        clear t2 g2
        go_wp2_with fail
        exact ⟨HU, HD.out⟩
      · have d1 : decide ((M : Int) ≤ ws.getD i 0) = false := decide_eq_false hx
        obtain rfl : i = J := HS.out.here (by omega)
        have e3 : (ws.getD i 0).tmod (p : Int) = ws.getD i 0 % (p : Int) := Int.tmod_eq_emod_of_nonneg x1
        obtain ⟨X, hX⟩ : ∃ X, ws.getD i 0 = X := ⟨_, rfl⟩
        rw [hX] at e3 d1 x1 x2 hx ⊢
        have HX : Hid (ws.getD i 0 = X) := hX
        clear hX
        go_wp2_with fail
        go_ret2
        unfold UnP
        rw [HX.out]
        exact ⟨HG.out, Or.inl ⟨hi, rfl, HQ.out⟩⟩
    · have HG : Hid (Chg w wr c (c + 2)) := g
      clear hrel g
      have HJ' : Hid (J = ws.length) := hJ
      clear hJ
      go_wp2_with fail
      go_ret2
      unfold UnP
      exact ⟨HG.out, Or.inr ⟨HJ'.out, rfl⟩⟩
end Go.Proofs.YtfgooclnohnkmaaDoor
/- Proved: contracts of the model's source of words: the next word (word), and a number below a modulus (uniform). -/
namespace Go.Proofs.YtfgooclnohnkmaaDoor
open Go.ChangeShapes Go.WideShapes Go.ChangeAt Go.RowKit
set_option linter.unusedVariables false
set_option linter.unusedSimpArgs false
/-- a source at block q: the words, the number of the next one, and whether there were enough -/
structure Sp (w : World) (q : Nat) (v : Value) (ws : List Int) (k : Nat) (ok : Bool) : Prop where
  le : k ≤ ws.length
  cells : w.heap[q]? = some (.cells #[v, .int .i64 k, .bool ok] 166 (0, 0))
  row : Row w v ws
  low : ∀ b o cap, v = .slice (some ⟨b, o, none⟩) ws.length cap → 0 < ws.length → b < q
theorem Sp.lt {w : World} {q k : Nat} {v : Value} {ws : List Int} {ok : Bool} (h : Sp w q v ws k ok) : q < w.heap.size := (Array.getElem?_eq_some_iff.1 h.cells).1
theorem row_set {w : World} {v : Value} {ws : List Int} (h : Row w v ws) (q j : Nat) (y : Value) (low : ∀ b o cap, v = .slice (some ⟨b, o, none⟩) ws.length cap → 0 < ws.length → b < q) : Row (w.setCell ⟨q, j, none⟩ y) v ws := by
  rcases h with h1 | ⟨b, o, cap, e, hb, h0, hc⟩
  · exact Or.inl h1
  · have := low b o cap e h0
    refine Or.inr ⟨b, o, cap, e, by rw [World.size_setCell]; exact hb, h0, fun i hi => ?_⟩
    rw [← hc i hi]
    exact World.cell?_of_block (heap_setCell_other w ⟨q, j, none⟩ b y (by show b ≠ q; omega))
theorem Sp.step {w : World} {q k : Nat} {v : Value} {ws : List Int} {ok : Bool} (h : Sp w q v ws k ok) (hk : k < ws.length) : Sp (w.setCell ⟨q, 1, none⟩ (.int .i64 ((k : Int) + 1))) q v ws (k + 1) ok := by
  obtain ⟨h1, h2, h3, h4⟩ := h
  exact ⟨by omega, by rw [heap_setCell_same _ _ _ _ _ _ h2]; rfl, row_set h3 q 1 _ h4, h4⟩
theorem Sp.dry {w : World} {q k : Nat} {v : Value} {ws : List Int} {ok : Bool} (h : Sp w q v ws k ok) : Sp (w.setCell ⟨q, 2, none⟩ (.bool false)) q v ws k false := by
  obtain ⟨h1, h2, h3, h4⟩ := h
  exact ⟨h1, by rw [heap_setCell_same _ _ _ _ _ _ h2]; rfl, row_set h3 q 2 _ h4, h4⟩
theorem Sp.c0 {w : World} {q k : Nat} {v : Value} {ws : List Int} {ok : Bool} (h : Sp w q v ws k ok) : w.cell? ⟨q, 0, none⟩ = some v := by rw [cell_of_row _ _ _ _ _ _ h.cells]; rfl
theorem Sp.c1 {w : World} {q k : Nat} {v : Value} {ws : List Int} {ok : Bool} (h : Sp w q v ws k ok) : w.cell? ⟨q, 1, none⟩ = some (.int .i64 k) := by rw [cell_of_row _ _ _ _ _ _ h.cells]; rfl
theorem Sp.c2 {w : World} {q k : Nat} {v : Value} {ws : List Int} {ok : Bool} (h : Sp w q v ws k ok) : w.cell? ⟨q, 2, none⟩ = some (.bool ok) := by rw [cell_of_row _ _ _ _ _ _ h.cells]; rfl
theorem Sp.fr {w : World} {q k : Nat} {v : Value} {ws : List Int} {ok : Bool} (h : Sp w q v ws k ok) (j : Nat) : w.frozen? ⟨q, j, none⟩ = false := frozen_of_row _ _ _ _ _ h.cells
/-- what word leaves -/
def WoP (ws : List Int) (w : World) (q : Nat) (v : Value) (k : Nat) (ok : Bool) (e : Ending) (w' : World) : Prop :=
  Chg w w' q (q + 1) ∧ ((k < ws.length ∧ e = .returned (.int .i64 (ws.getD k 0)) ∧ Sp w' q v ws (k + 1) ok) ∨ (k = ws.length ∧ e = .returned (.int .i64 0) ∧ Sp w' q v ws k false))
theorem Sp.drew {w : World} {q k : Nat} {v : Value} {ws : List Int} {ok : Bool} (h : Sp w q v ws k ok) (n : Nat) : Sp (w.drewN n) q v ws k ok :=
  ⟨h.le, h.cells, h.row.old ((Old.refl w).drewN n), h.low⟩
theorem chg_drew (w : World) (n lo hi : Nat) : Chg w (w.drewN n) lo hi := ((Old.refl w).drewN n).toChg lo hi
theorem Sp.word {w : World} {q k : Nat} {a : Option Addr} {cap : Nat} {ws : List Int} {ok : Bool} (h : Sp w q (.slice a ws.length cap) ws k ok) (j : Nat) (hj : j < ws.length) : ∃ b o, a = some ⟨b, o, none⟩ ∧ w.cell? ⟨b, o + j, none⟩ = some (.int .i64 (ws.getD j 0)) := by
  rcases h.row with ⟨a', cap', e, e2⟩ | ⟨b, o, cap', e, hb, h0, hc⟩
  · rw [e2] at hj; simp at hj
  · injection e with e1
    exact ⟨b, o, e1, hc j hj⟩
set_option maxRecDepth 100000 in
set_option maxHeartbeats 2000000 in
theorem word_some (ws : List Int) (q k : Nat) (v : Value) (ok : Bool) (w : World) (hl : ws.length ≤ 4000) (h : Sp w q v ws k ok) (h1 : k < ws.length) :
    Calls Tryd.prog 176 #[.pointer (some ⟨q, 0, none⟩)] w fun e w' => WoP ws w q v k ok e w' := by
  have c0 := h.c0
  have c1 := h.c1
  have HS : Hid (Sp w q v ws k ok) := h
  obtain ⟨a, cap, rfl⟩ := h.row.slice
  obtain ⟨b, o, rfl, _⟩ := h.word k h1
  have d1 : decide ((ws.length : Int) ≤ (k : Int)) = false := decide_eq_false (by omega)
  have HK : Hid (k < ws.length) := h1
  clear h
  go_enter Tryd.func176, Tryd.ntmps176
  go_wp2_with fail
  go_quiet (fail)
  have HS1 : Hid (Sp (w.drewN nq) q (.slice (some ⟨b, o, none⟩) ws.length cap) ws k ok) := HS.out.drew nq
  have HG1 : Hid (Chg w (w.drewN nq) q (q + 1)) := chg_drew w nq q (q + 1)
  clear c0 c1 HS
  generalize w.drewN nq = w1 at *
  have c0 := HS1.out.c0
  have c1 := HS1.out.c1
  have f1 := HS1.out.fr 1
  have s1 := HS1.out.step h1
  have c3 := s1.c0
  have c4 : (w1.setCell ⟨q, 1, none⟩ (.int .i64 ((k : Int) + 1))).cell? ⟨q, 1, none⟩ = some (.int .i64 ((k : Int) + 1)) := s1.c1
  have e4 : (k : Int) + 1 - 1 = k := by omega
  have HS2 : Hid (Sp (w1.setCell ⟨q, 1, none⟩ (.int .i64 ((k : Int) + 1))) q (.slice (some ⟨b, o, none⟩) ws.length cap) ws (k + 1) ok) := s1
  obtain ⟨b', o', hb', hc⟩ := s1.word k h1
  injection hb' with hb'
  injection hb' with hb1 hb2
  subst hb1 hb2
  obtain ⟨X, hX⟩ : ∃ X, ws.getD k 0 = X := ⟨_, rfl⟩
  rw [hX] at hc
  have HX : Hid (ws.getD k 0 = X) := hX
  clear s1 HS1 hX
  go_wp2_with fail
  go_quiet (fail)
  go_wp2_with fail
  go_ret
  unfold WoP
  rw [HX.out]
  exact ⟨(HG1.out.trans (chg_setCell _ q 1 _)).trans (chg_drew _ _ _ _), Or.inl ⟨HK.out, rfl, HS2.out.drew _⟩⟩
set_option maxRecDepth 100000 in
set_option maxHeartbeats 2000000 in
theorem word_none (ws : List Int) (q : Nat) (v : Value) (ok : Bool) (w : World) (hl : ws.length ≤ 4000) (h : Sp w q v ws ws.length ok) :
    Calls Tryd.prog 176 #[.pointer (some ⟨q, 0, none⟩)] w fun e w' => WoP ws w q v ws.length ok e w' := by
  have c0 := h.c0
  have c1 := h.c1
  have HS : Hid (Sp w q v ws ws.length ok) := h
  obtain ⟨a, cap, rfl⟩ := h.row.slice
  have d1 : decide ((ws.length : Int) ≤ (ws.length : Int)) = true := decide_eq_true (by omega)
  clear h
  go_enter Tryd.func176, Tryd.ntmps176
  go_wp2_with fail
  go_quiet (fail)
  have HS1 : Hid (Sp (w.drewN nq) q (.slice a ws.length cap) ws ws.length ok) := HS.out.drew nq
  have HG1 : Hid (Chg w (w.drewN nq) q (q + 1)) := chg_drew w nq q (q + 1)
  clear c0 c1 HS
  generalize w.drewN nq = w1 at *
  have c2 := HS1.out.c2
  have f2 := HS1.out.fr 2
  have HS2 : Hid (Sp (w1.setCell ⟨q, 2, none⟩ (.bool false)) q (.slice a ws.length cap) ws ws.length false) := HS1.out.dry
  clear HS1
  go_wp2_with fail
  go_ret
  unfold WoP
  exact ⟨HG1.out.trans (chg_setCell _ q 2 _), Or.inr ⟨rfl, rfl, HS2.out⟩⟩
theorem word_any (ws : List Int) (q k : Nat) (v : Value) (ok : Bool) (w : World) (hl : ws.length ≤ 4000) (h : Sp w q v ws k ok) :
    Calls Tryd.prog 176 #[.pointer (some ⟨q, 0, none⟩)] w fun e w' => WoP ws w q v k ok e w' := by
  rcases Nat.lt_or_ge k ws.length with h1 | h1
  · exact word_some ws q k v ok w hl h h1
  · obtain rfl : k = ws.length := Nat.le_antisymm h.le h1
    exact word_none ws q v ok w hl h
/-- the number of the next word, and whether there were enough, as they lie in memory -/
def restOf (W : World) (q n : Nat) : Nat := (match W.cell? ⟨q, 1, none⟩ with
  | some (.int _ k) => 2 * (n - k.toNat)
  | _ => 0) + (match W.cell? ⟨q, 2, none⟩ with
  | some (.bool true) => 1
  | _ => 0)
theorem Sp.rest {w : World} {q k : Nat} {v : Value} {ws : List Int} {ok : Bool} (h : Sp w q v ws k ok) : restOf w q ws.length = 2 * (ws.length - k) + (if ok then 1 else 0) := by
  unfold restOf
  rw [h.c1, h.c2]
  cases ok <;> simp
/-- what the model's draw leaves that stops at number J -/
def UnM (ws : List Int) (w : World) (q : Nat) (v : Value) (p J : Nat) (e : Ending) (w' : World) : Prop :=
  Chg w w' q (q + 1) ∧ ((J < ws.length ∧ e = .returned (.int .i64 (ws.getD J 0 % p)) ∧ Sp w' q v ws (J + 1) true) ∨ (J = ws.length ∧ e = .returned (.int .i64 0) ∧ Sp w' q v ws J false))
set_option maxRecDepth 100000 in
set_option maxHeartbeats 2000000 in
theorem uniform_m (ws : List Int) (q k p J : Nat) (v : Value) (w : World) (hw : wdB ws = true) (hl : ws.length ≤ 4000) (h : Sp w q v ws k true) (hp : 2 ≤ p ∧ p ≤ 268435456) (hJ : Stp ws (mulM p) k J) :
    Calls Tryd.prog 165 #[.pointer (some ⟨q, 0, none⟩), .int .i64 p] w fun e w' => UnM ws w q v p J e w' := by
  obtain ⟨p1, p2⟩ := hp
  obtain ⟨m, hm, m1⟩ : ∃ m, m = 4294967296 / p ∧ m ≤ 4294967296 := ⟨_, rfl, Nat.div_le_self _ _⟩
  have e1 : (4294967296 : Int).tdiv (p : Int) = (m : Int) := by rw [hm]; rfl
  have e1' : (4294967296 : Int) / (p : Int) = (m : Int) := by rw [hm]; rfl
  have e2 : (m : Int) * (p : Int) = (mulM p : Int) := by rw [hm, mulM]; rfl
  have p0 : ¬ p = 0 := by omega
  have HJ : Hid (Stp ws (mulM p) k J) := hJ
  have HP : Hid (Sp w q v ws k true) := h
  have HW : Hid (wdB ws = true) := hw
  have m2 : 0 < mulM p := mulM_pos p (by omega) p2
  have m3 : mulM p ≤ 4294967296 := mulM_le p
  obtain ⟨M, hM⟩ : ∃ M, M = mulM p := ⟨_, rfl⟩
  rw [← hM] at e2 HJ m2 m3
  clear hm hJ h hw hM
  go_enter Tryd.func165, Tryd.ntmps165
  go_wp2_with fail
  go_loopw [5] (fun x W => Hid (Chg w W q (q + 1) ∧ ((∃ i, Stp ws M i J ∧ Sp W q v ws i true) ∨ (J = ws.length ∧ Sp W q v ws J false)))) (fun x W => restOf W q ws.length)
  case atStart => exact ⟨⟨rfl, rfl, rfl, Nat.le_refl _, fun _ _ _ => rfl⟩, Or.inl ⟨k, HJ.out, HP.out⟩⟩
  case round =>
    clear HJ HP
    obtain ⟨g, ⟨i, hS, hPu⟩ | ⟨hJ, hPu⟩⟩ := hrel.out
    · clear hrel
      have HG : Hid (Chg w wr q (q + 1)) := g
      have HS : Hid (Stp ws M i J) := hS
      have HQ : Hid (Sp wr q v ws i true) := hPu
      have HR : Hid (restOf wr q ws.length = 2 * (ws.length - i) + 1) := hPu.rest
      have c2 := hPu.c2
      clear g hS hPu
      go_wp2_with fail
      refine (word_any ws q i v true wr hl HQ.out).mono ?_
      rintro e w2 ⟨g2, ⟨hi, rfl, s2⟩ | ⟨hi, rfl, s2⟩⟩
      · have HG2 : Hid (Chg w w2 q (q + 1)) := HG.out.trans g2
        have HS2 : Hid (Sp w2 q v ws (i + 1) true) := s2
        have HR2 : Hid (restOf w2 q ws.length = 2 * (ws.length - (i + 1)) + 1) := s2.rest
        have hI : i < ws.length := hi
        obtain ⟨x1, x2⟩ := wdB_get HW.out i hi
        clear g2 s2 HQ HG c2
        by_cases hx : (M : Int) ≤ ws.getD i 0
        · have d1 : decide (ws.getD i 0 < (M : Int)) = false := decide_eq_false (by omega)
          have HS3 : Hid (Stp ws M (i + 1) J) := HS.out.next hi hx
          generalize ws.getD i 0 = X at *
          go_wp2_with fail
          refine ⟨⟨HG2.out, Or.inl ⟨i + 1, HS3.out, HS2.out⟩⟩, ?_⟩
          rw [HR2.out, HR.out]
          omega
        · have d1 : decide (ws.getD i 0 < (M : Int)) = true := decide_eq_true (by omega)
          have HK : Hid (i = J) := HS.out.here (by omega)
          have e3 : (ws.getD i 0).tmod (p : Int) = ws.getD i 0 % (p : Int) := Int.tmod_eq_emod_of_nonneg x1
          obtain ⟨X, hX⟩ : ∃ X, ws.getD i 0 = X := ⟨_, rfl⟩
          rw [hX] at e3 d1 x1 x2 hx ⊢
          have HX : Hid (ws.getD i 0 = X) := hX
          clear hX
          go_wp2_with fail
          go_ret
          unfold UnM
          rw [← HK.out, HX.out]
          exact ⟨HG2.out, Or.inl ⟨hI, rfl, HS2.out⟩⟩
      · have HG2 : Hid (Chg w w2 q (q + 1)) := HG.out.trans g2
        have HS2 : Hid (Sp w2 q v ws i false) := s2
        have HK : Hid (i = J ∧ J = ws.length) := by have := HS.out.ge; have := HS.out.le; exact ⟨by omega, by omega⟩
        clear g2 s2 HQ HG c2 hi
        have d1 : decide ((0 : Int) < (M : Int)) = true := decide_eq_true (by omega)
        go_wp2_with fail
        go_ret
        unfold UnM
        rw [← HK.out.1]
        exact ⟨HG2.out, Or.inr ⟨HK.out.1.trans HK.out.2, rfl, HS2.out⟩⟩
    · have HG : Hid (Chg w wr q (q + 1)) := g
      have HQ : Hid (Sp wr q v ws J false) := hPu
      have c2 := hPu.c2
      have HK : Hid (J = ws.length) := hJ
      clear hrel g hPu hJ
      go_wp2_with fail
      go_ret
      unfold UnM
      exact ⟨HG.out, Or.inr ⟨HK.out, rfl, HQ.out⟩⟩
end Go.Proofs.YtfgooclnohnkmaaDoor
