/- Proved: the contract of purseOf: the words from some number on wait in a channel that is closed behind them. -/
import Derived.Test.YtonbimgdkafnjaaPurse
namespace Go.Proofs.Ytonbimgdkafnjaa
open Go.ChangeShapes Go.WideShapes Go.ChangeAt Go.RowKit
open Go.Conc
set_option linter.unusedVariables false
set_option linter.unusedSimpArgs false
theorem bytesInt : ∃ i, Try.prog.info? 3 = some i ∧ i.bytes = 8 := by
  obtain ⟨i0, hi, hz0, hz1, hz2⟩ := info_parts Try.infoInt
  exact ⟨i0, hi, hz2⟩
theorem make_chan (w : World) (n : Nat) (hn : n ≤ 4000) : (Instr.makeChan 111 (.int .i64 n)).run Try.prog w = .ok (.chan (some w.heap.size)) (w.alloc (.chan n #[] false 0 0 false)) := by
  obtain ⟨i, hi, hb⟩ := bytesInt
  exact run_makeChan (P := Try.prog) (w := w) Try.underlying111 hi .i64 n (by omega) (by rw [hb]; omega)
/-- j words from number k on -/
def bufN (ws : List Int) (k j : Nat) : Array Value := (((ws.drop k).take j).map (Value.int .i64)).toArray
theorem bufN_push (ws : List Int) (k j : Nat) (h : k + j < ws.length) : (bufN ws k j).push (.int .i64 (ws.getD (k + j) 0)) = bufN ws k (j + 1) := by
  unfold bufN
  rw [List.take_add_one]
  simp [List.getD, h]
theorem bufN_size (ws : List Int) (k j : Nat) (h : k + j ≤ ws.length) : (bufN ws k j).size = j := by simp [bufN]; omega
theorem bufN_all (ws : List Int) (k n : Nat) (h : ws.length = k + n) : bufN ws k n = bufI ws k := by
  unfold bufN bufI
  rw [List.take_of_length_le (by simp; omega)]
theorem old_setChan {a w : World} (h : Old a w) {c : Nat} (hc : a.heap.size ≤ c) (cap : Nat) (buf : Array Value) (cl : Bool) (s r : Nat) (tm : Bool) : Old a (w.setChan c cap buf cl s r tm) := below_setChan h hc cap buf cl s r tm
set_option maxRecDepth 100000 in
set_option maxHeartbeats 2000000 in
theorem purseOf_some (ws : List Int) (b o cap at_ n : Nat) (w : World) (hb : b < w.heap.size) (hc : ∀ j, j < ws.length → w.cell? ⟨b, o + j, none⟩ = some (.int .i64 (ws.getD j 0))) (hcap : ws.length ≤ cap) (hl : ws.length ≤ 4000) (hn : ws.length = at_ + n) :
    Calls Try.prog 54 #[.slice (some ⟨b, o, none⟩) ws.length cap, .int .i64 at_] w fun e w' => e = .returned (.pointer (some ⟨w.heap.size + 1, 0, none⟩)) ∧ Old w w' ∧ Pu w' w.heap.size ws at_ := by
  have HC : Hid (∀ j, j < ws.length → w.cell? ⟨b, o + j, none⟩ = some (.int .i64 (ws.getD j 0))) := hc
  have HL : Hid (ws.length = at_ + n) := hn
  have hmk := make_chan w n (by omega)
  have e1 : (ws.length : Int) - (at_ : Int) = (n : Int) := by omega
  have d1 : decide ((at_ : Int) < 0) = false := decide_eq_false (by omega)
  have e3 : ws.length - at_ = n := by omega
  have b1 : at_ ≤ ws.length := by omega
  have b2 : n ≤ 4000 := by omega
  clear hn hc
  by_cases hca : cap = at_
  · have hn0 : n = 0 := by omega
    subst hn0
    subst hca
    have e4 : ws.length = cap := by omega
    have hmk0 : (Instr.makeChan 111 (.int .i64 0)).run Try.prog w = .ok (.chan (some w.heap.size)) (w.alloc (.chan 0 #[] false 0 0 false)) := make_chan w 0 (by omega)
    have HE : Hid (bufI ws cap = #[]) := by rw [← e4]; exact bufI_end ws
    rw [e4]
    clear hmk HC HL e1 e3 b2 hcap
    have hl' : cap ≤ 4000 := by omega
    have HX : Hid (ws.length = cap) := e4
    clear e4 hl b1
    have hcl := fun ats ty => run_close_open (P := Try.prog) (w := w.alloc (.chan 0 #[] false 0 0 false)) ats ty (heap_alloc_new _ _)
    go_enter Try.func54, Try.ntmps54
    go_wp2_with fail
    refine wp_loop_rounds 1 ?_
    rw [rounds_succ]
    go_wp2_with fail
    go_ret
    have hz : (w.alloc (.chan 0 #[] false 0 0 false)).heap.size = w.heap.size + 1 := by simp
    refine ⟨rfl, ?_, ?_⟩
    · exact (old_setChan ((Old.refl w).alloc (.chan 0 #[] false 0 0 false)) (Nat.le_refl _) 0 #[] true 0 0 false).alloc _
    · refine ⟨?_, by rw [HX.out]; exact Nat.le_refl _, ?_, 0, 0, 0, ?_⟩
      · show _ < (World.alloc _ _).heap.size
        simp
      · have := heap_alloc_new ((w.alloc (.chan 0 #[] false 0 0 false)).setChan w.heap.size 0 #[] true 0 0 false) (.cells #[.chan (some w.heap.size), .int .i64 cap] 110)
        rw [size_setChan, hz] at this
        exact this
      · have := heap_alloc_old ((w.alloc (.chan 0 #[] false 0 0 false)).setChan w.heap.size 0 #[] true 0 0 false) (.cells #[.chan (some w.heap.size), .int .i64 cap] 110) (r := w.heap.size) (by rw [size_setChan, hz]; omega)
        rw [HE.out]
        exact this.trans (heap_setChan _ _ _ _ _ _ _ _ (by rw [hz]; omega))
  · go_enter Try.func54, Try.ntmps54
    go_wp2_with fail
    go_loopw [17] (fun i W => ∃ j : Nat, j ≤ n ∧ i = .int .i64 j ∧ Hid (W.heap[w.heap.size]? = some (.chan n (bufN ws at_ j) false j 0 false)) ∧ Hid (Old w W) ∧ Hid (W.heap.size = w.heap.size + 1)) (fun i _ => n - (intOf i).toNat)
    case atStart => exact ⟨0, by omega, rfl, heap_alloc_new _ _, (Old.refl w).alloc _, by show (w.alloc _).heap.size = _; simp⟩
    case round =>
      obtain ⟨j, hj, rfl, HQ, HG, HZ⟩ := hrel
      clear hmk
      by_cases hlt : j < n
      · have dl : decide ((j : Int) < (n : Int)) = true := by simp; omega
        have c1 : wr.cell? ⟨b, o + at_ + j, none⟩ = some (.int .i64 (ws.getD (at_ + j) 0)) := by
          rw [Nat.add_assoc]
          exact (HG.out.cell (p := ⟨b, o + (at_ + j), none⟩) hb).trans (HC.out (at_ + j) (by have := HL.out; omega))
        have HPu : Hid ((bufN ws at_ j).push (.int .i64 (ws.getD (at_ + j) 0)) = bufN ws at_ (j + 1)) := bufN_push ws at_ j (by have := HL.out; omega)
        have HSz : Hid ((bufN ws at_ j).size < n) := by show _ < n; rw [bufN_size ws at_ j (by have := HL.out; omega)]; exact hlt
        generalize ws.getD (at_ + j) 0 = x at c1 HPu
        iterate 30 go_step
        refine wp_regc (id := 5) ?_
        simp only [List.size_toArray, List.length_cons, List.length_nil, Nat.reduceAdd, Nat.zero_add, List.range, List.range.loop]
        iterate 2 (refine regc_op rfl rfl (fun K hK => ?_); go_simp; refine hK _ _ ?_; clear hK K)
        refine regc_send (c := w.heap.size) (cap := n) (s := j) (r := 0) (buf := bufN ws at_ j) (tm := false) (v := .int .i64 x) (z := .tuple #[]) rfl rfl (by simp [execOp, scase, Act.eval]) HQ.out HSz.out ?_
        rw [HPu.out]
        refine regc_end ?_
        go_wp2_with fail
        exact ⟨⟨j + 1, by omega, by go_num, heap_setChan _ _ _ _ _ _ _ _ (by rw [HZ.out]; omega), old_setChan HG.out (Nat.le_refl _) _ _ _ _ _ _, by show (World.setChan _ _ _ _ _ _ _ _).heap.size = _; rw [size_setChan]; exact HZ.out⟩, by simp [intOf]; omega⟩
      · have dl : decide ((j : Int) < (n : Int)) = false := by simp; omega
        obtain rfl : j = n := by omega
        have hcl := fun ats ty => run_close_open (P := Try.prog) (w := wr) ats ty HQ.out
        have HE : Hid (bufN ws at_ j = bufI ws at_) := bufN_all ws at_ j HL.out
        go_wp2_with fail
        go_ret
        rw [HZ.out, HE.out]
        refine ⟨rfl, ?_, ?_⟩
        · exact (old_setChan HG.out (Nat.le_refl _) j (bufI ws at_) true j 0 false).alloc _
        · refine ⟨?_, b1, ?_, j, j, 0, ?_⟩
          · show _ < (World.alloc _ _).heap.size
            simp [HZ.out]
          · have := heap_alloc_new (wr.setChan w.heap.size j (bufI ws at_) true j 0 false) (.cells #[.chan (some w.heap.size), .int .i64 at_] 110)
            rw [size_setChan, HZ.out] at this
            exact this
          · have := heap_alloc_old (wr.setChan w.heap.size j (bufI ws at_) true j 0 false) (.cells #[.chan (some w.heap.size), .int .i64 at_] 110) (r := w.heap.size) (by rw [size_setChan, HZ.out]; omega)
            exact this.trans (heap_setChan _ _ _ _ _ _ _ _ (by rw [HZ.out]; omega))
set_option maxRecDepth 100000 in
set_option maxHeartbeats 2000000 in
theorem purseOf_none (a : Option Addr) (cap : Nat) (w : World) :
    Calls Try.prog 54 #[.slice a 0 cap, .int .i64 0] w fun e w' => e = .returned (.pointer (some ⟨w.heap.size + 1, 0, none⟩)) ∧ Old w w' ∧ Pu w' w.heap.size [] 0 := by
  have hmk0 : (Instr.makeChan 111 (.int .i64 0)).run Try.prog w = .ok (.chan (some w.heap.size)) (w.alloc (.chan 0 #[] false 0 0 false)) := make_chan w 0 (by omega)
  have hcl := fun ats ty => run_close_open (P := Try.prog) (w := w.alloc (.chan 0 #[] false 0 0 false)) ats ty (heap_alloc_new _ _)
  go_enter Try.func54, Try.ntmps54
  go_wp2_with fail
  all_goals (
    refine wp_loop_rounds 1 ?_
    rw [rounds_succ]
    go_wp2_with fail
    go_ret
    have hz : (w.alloc (.chan 0 #[] false 0 0 false)).heap.size = w.heap.size + 1 := by simp
    refine ⟨rfl, ?_, ?_⟩
    · exact (old_setChan ((Old.refl w).alloc (.chan 0 #[] false 0 0 false)) (Nat.le_refl _) 0 #[] true 0 0 false).alloc _
    · refine ⟨?_, Nat.le_refl _, ?_, 0, 0, 0, ?_⟩
      · show _ < (World.alloc _ _).heap.size
        simp
      · have := heap_alloc_new ((w.alloc (.chan 0 #[] false 0 0 false)).setChan w.heap.size 0 #[] true 0 0 false) (.cells #[.chan (some w.heap.size), .int .i64 0] 110)
        rw [size_setChan, hz] at this
        exact this
      · have := heap_alloc_old ((w.alloc (.chan 0 #[] false 0 0 false)).setChan w.heap.size 0 #[] true 0 0 false) (.cells #[.chan (some w.heap.size), .int .i64 0] 110) (r := w.heap.size) (by rw [size_setChan, hz]; omega)
        exact this.trans (heap_setChan _ _ _ _ _ _ _ _ (by rw [hz]; omega)))
/-- a slice's length is at most its capacity -/
def Fit7 : Value → Prop
  | .slice _ n c => n ≤ c
  | _ => True
theorem purseOf_any (ws : List Int) (v : Value) (at_ : Nat) (w : World) (h : Row w v ws) (hf : Fit7 v) (hl : ws.length ≤ 4000) (ha : at_ ≤ ws.length) :
    Calls Try.prog 54 #[v, .int .i64 at_] w fun e w' => e = .returned (.pointer (some ⟨w.heap.size + 1, 0, none⟩)) ∧ Old w w' ∧ Pu w' w.heap.size ws at_ := by
  rcases h with ⟨a, cap, rfl, rfl⟩ | ⟨b, o, cap, rfl, hb, h0, hc⟩
  · obtain rfl : at_ = 0 := by simpa using ha
    exact purseOf_none a cap w
  · exact purseOf_some ws b o cap at_ (ws.length - at_) w hb hc hf hl (by omega)
end Go.Proofs.Ytonbimgdkafnjaa
