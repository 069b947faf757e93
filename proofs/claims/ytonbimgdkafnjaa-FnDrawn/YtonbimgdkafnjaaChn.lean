/- Proved: laws of communication in a call that is walked by its weakest conditions: a region of which one operation is a send into a channel with room, or a receive from one that holds something or is closed. -/
import Derived.Test.YtonbimgdkafnjaaHelp
import Derived.Conc.LoneCalls
namespace Go.Proofs.Ytonbimgdkafnjaa
open Go.ChangeShapes Go.WideShapes Go.ChangeAt Go.RowKit
open Go.Conc
set_option linter.unusedVariables false
set_option linter.unusedSimpArgs false
/-- what a region leads to from some operation on -/
def RegC (P : Program) (ops : Array Oper) (Q : Exit → Act → World → Prop) (is : List Nat) (a : Act) (w : World) : Prop :=
  ∀ (b : Frame) (k : List Item) (cs : List Frame), ∃ e a' w', Q e a' w' ∧ Arrives P (lone (b.at a (.inRegion ops is :: k)) cs w) b k cs e a' w'
section
variable {P : Program} {ops : Array Oper} {Q : Exit → Act → World → Prop} {a : Act} {w : World} {rest : List Nat} {i : Nat} {o : Oper}
theorem wp_regc {id : Nat} (h : RegC P ops Q (List.range ops.size) a w) : (Code.region id ops false).wp P Q a w :=
  fun b k cs => let ⟨e, a', w', q, r⟩ := h b k cs; ⟨e, a', w', q, .of_steps (.one step_region) r⟩
theorem regc_end (h : wpList P ops Q [] a w) : RegC P ops Q [] a w :=
  fun b k cs => ⟨.normal, a, w, h, .one step_region_end⟩
theorem regc_op (ho : ops[i]? = some o) (hw : Region.wanted o (yielded ops a.tmps) = true)
    (h : ∀ K : Act → World → Prop, (∀ a' w', RegC P ops Q rest a' w' → K a' w') → uponK o a K ((execOp a.eval o).run P w)) : RegC P ops Q (i :: rest) a w := by
  intro b k cs
  have h' := h _ (fun _ _ x => x)
  have hg := stepG_op (P := P) (b := b) (k := k) (cs := cs) (w := w) (rest := rest) ho hw
  have hfin : ∀ v, (b.at a (.inRegion ops (i :: rest) :: k)).finish v = b.at (a.put o.dst v) (.inRegion ops rest :: k) := by
    intro v; rw [Frame.finish_at, ho]; rfl
  generalize hr : (execOp a.eval o).run P w = r at h'
  match r, h' with
  | .ok (.value v) w', h' =>
    obtain ⟨e, a', w'', hq, harr⟩ := h' b k cs
    refine ⟨e, a', w'', hq, .of_steps (.one (step_lone_go ?_)) harr⟩
    rw [hg, ← hfin]; simp [stepG.apply, hr]
  | .ok .skip w', h' =>
    obtain ⟨e, a', w'', hq, harr⟩ := h' b k cs
    refine ⟨e, a', w'', hq, .of_steps (.one (step_lone_go ?_)) harr⟩
    rw [hg, ← hfin]; simp [stepG.apply, hr]
theorem comm_step {b : Frame} {k : List Item} {cs : List Frame} {cases : Array CommCase} {blocking : Bool} {shape : CommShape} {w' : World} (ho : ops[i]? = some o) (hw : Region.wanted o (yielded ops a.tmps) = true)
    (hr : (execOp a.eval o).run P w = .ok (.comm cases blocking shape) w') :
    ∃ es, stepG P true (G (b.at a (.inRegion ops (i :: rest) :: k)) cs) w = .comm (G (b.at a (.inRegion ops (i :: rest) :: k)) cs) cases blocking shape w' es := by
  rw [stepG_oper ho hw]
  simp [stepG.apply, hr, G, Frame.at, GStep.after]
theorem regc_send {c cap s r : Nat} {buf : Array Value} {tm : Bool} {v z : Value} (ho : ops[i]? = some o) (hw : Region.wanted o (yielded ops a.tmps) = true)
    (hr : (execOp a.eval o).run P w = .ok (.comm #[scase c v z] true .send) w) (hc : w.heap[c]? = some (.chan cap buf false s r tm)) (hroom : buf.size < cap)
    (h : RegC P ops Q rest (a.put o.dst undef) (w.setChan c cap (buf.push v) false (s + 1) r tm)) : RegC P ops Q (i :: rest) a w := by
  intro b k cs
  obtain ⟨es, hs⟩ := comm_step (b := b) (k := k) (cs := cs) (rest := rest) ho hw hr
  obtain ⟨e, a', w'', hq, harr⟩ := h b k cs
  have st := step_lone_send_room hs hc hroom
  rw [Frame.finish_at, ho] at st
  exact ⟨e, a', w'', hq, .of_steps (.one st) harr⟩
theorem regc_recv {c cap s r : Nat} {buf : Array Value} {tm closed : Bool} {z : Value} (ho : ops[i]? = some o) (hw : Region.wanted o (yielded ops a.tmps) = true)
    (hr : (execOp a.eval o).run P w = .ok (.comm #[rcase c z] true (.recv true)) w) (hc : w.heap[c]? = some (.chan cap buf closed s r tm)) (hsome : 0 < buf.size)
    (h : RegC P ops Q rest (a.put o.dst (.tuple #[buf.getD 0 undef, .bool true])) (w.setChan c cap (buf.extract 1 buf.size) closed s (r + 1) tm)) : RegC P ops Q (i :: rest) a w := by
  intro b k cs
  obtain ⟨es, hs⟩ := comm_step (b := b) (k := k) (cs := cs) (rest := rest) ho hw hr
  obtain ⟨e, a', w'', hq, harr⟩ := h b k cs
  have st := step_lone_recv_buf true hs hc hsome
  rw [Frame.finish_at, ho] at st
  exact ⟨e, a', w'', hq, .of_steps (.one st) harr⟩
theorem regc_shut {c cap s r : Nat} {tm : Bool} {z : Value} (ho : ops[i]? = some o) (hw : Region.wanted o (yielded ops a.tmps) = true)
    (hr : (execOp a.eval o).run P w = .ok (.comm #[rcase c z] true (.recv true)) w) (hc : w.heap[c]? = some (.chan cap #[] true s r tm))
    (h : RegC P ops Q rest (a.put o.dst (.tuple #[z, .bool false])) w) : RegC P ops Q (i :: rest) a w := by
  intro b k cs
  obtain ⟨es, hs⟩ := comm_step (b := b) (k := k) (cs := cs) (rest := rest) ho hw hr
  obtain ⟨e, a', w'', hq, harr⟩ := h b k cs
  have st := step_lone_recv_shut true hs hc
  rw [Frame.finish_at, ho] at st
  exact ⟨e, a', w'', hq, .of_steps (.one st) harr⟩
end
end Go.Proofs.Ytonbimgdkafnjaa
