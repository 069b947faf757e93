/- Proved: the program's purse of words: how it lies in memory, and the contract of take: the next word and true, or 0 and false where the words have run out. -/
import Derived.Test.YtonbimgdkafnjaaChn
import Derived.Test.YtonbimgdkafnjaaChg
namespace Go.Proofs.Ytonbimgdkafnjaa
open Go.ChangeShapes Go.WideShapes Go.ChangeAt Go.RowKit
open Go.Conc
set_option linter.unusedVariables false
set_option linter.unusedSimpArgs false
/-- the words from number k on, as a channel holds them -/
def bufI (ws : List Int) (k : Nat) : Array Value := ((ws.drop k).map (Value.int .i64)).toArray
theorem bufI_get (ws : List Int) (k : Nat) (h : k < ws.length) : (bufI ws k).getD 0 undef = .int .i64 (ws.getD k 0) := by
  unfold bufI
  rw [List.drop_eq_getElem_cons h]
  simp [List.getD, h]
theorem bufI_pos (ws : List Int) (k : Nat) (h : k < ws.length) : 0 < (bufI ws k).size := by
  simp [bufI]; omega
theorem bufI_next (ws : List Int) (k : Nat) (h : k < ws.length) : (bufI ws k).extract 1 (bufI ws k).size = bufI ws (k + 1) := by
  unfold bufI
  rw [List.drop_eq_getElem_cons h]
  simp
  exact List.take_of_length_le (by simp; omega)
theorem bufI_end (ws : List Int) : bufI ws ws.length = #[] := by simp [bufI]
/-- a purse at block c + 1 whose channel lies at block c: k words of ws are taken, the others wait -/
structure Pu (w : World) (c : Nat) (ws : List Int) (k : Nat) : Prop where
  lt : c + 1 < w.heap.size
  le : k ≤ ws.length
  cells : w.heap[c + 1]? = some (.cells #[.chan (some c), .int .i64 k] 110 (0, 0))
  chan : ∃ cap s r, w.heap[c]? = some (.chan cap (bufI ws k) true s r false)
theorem Pu.old {w w' : World} {c k : Nat} {ws : List Int} (h : Pu w c ws k) (g : Old w w') : Pu w' c ws k := by
  obtain ⟨h1, h2, h3, cap, s, r, h4⟩ := h
  exact ⟨Nat.lt_of_lt_of_le h1 g.size, h2, (g.block _ h1).trans h3, cap, s, r, (g.block _ (by omega)).trans h4⟩
theorem Pu.chg {w w' : World} {c k lo hi : Nat} {ws : List Int} (h : Pu w c ws k) (g : Chg w w' lo hi) (hd : c + 2 ≤ lo ∨ hi ≤ c) : Pu w' c ws k := by
  obtain ⟨h1, h2, h3, cap, s, r, h4⟩ := h
  exact ⟨Nat.lt_of_lt_of_le h1 g.size, h2, (g.block _ h1 (by omega)).trans h3, cap, s, r, (g.block _ (by omega) (by omega)).trans h4⟩
theorem chg_setChan (w : World) (c cap : Nat) (buf : Array Value) (cl : Bool) (s r : Nat) (tm : Bool) : Chg w (w.setChan c cap buf cl s r tm) c (c + 1) :=
  ⟨rfl, rfl, rfl, by simp [World.setChan], fun k hk ho => by simp only [World.setChan]; rw [Array.getElem?_setIfInBounds_ne (by omega)]⟩
theorem chg_setCell (w : World) (b j : Nat) (v : Value) : Chg w (w.setCell ⟨b, j, none⟩ v) b (b + 1) :=
  ⟨rfl, rfl, rfl, by simp [World.setCell], fun k hk ho => heap_setCell_other w ⟨b, j, none⟩ k v (by show k ≠ b; omega)⟩
theorem Pu.took {w : World} {c k : Nat} {ws : List Int} (h : Pu w c ws k) (hk : k < ws.length) {cap s r : Nat} :
    Pu ((w.setChan c cap (bufI ws (k + 1)) true s r false).setCell ⟨c + 1, 1, none⟩ (.int .i64 ((k : Int) + 1))) c ws (k + 1) := by
  obtain ⟨h1, h2, h3, _⟩ := h
  have e1 : (w.setChan c cap (bufI ws (k + 1)) true s r false).heap[c + 1]? = some (.cells #[.chan (some c), .int .i64 k] 110 (0, 0)) := by
    rw [← h3]; simp only [World.setChan]; rw [Array.getElem?_setIfInBounds_ne (by omega)]
  refine ⟨?_, by omega, ?_, cap, s, r, ?_⟩
  · rw [World.size_setCell, size_setChan]; exact h1
  · rw [heap_setCell_same _ _ _ _ _ _ e1]; rfl
  · rw [heap_setCell_other _ _ _ _ (by show c ≠ c + 1; omega), heap_setChan _ _ _ _ _ _ _ _ (by omega)]
set_option maxRecDepth 100000 in
set_option maxHeartbeats 2000000 in
theorem take_some (ws : List Int) (c k : Nat) (w : World) (h : Pu w c ws k) (hk : k < ws.length) (hl : ws.length ≤ 4000) :
    Calls Try.prog 89 #[.pointer (some ⟨c + 1, 0, none⟩)] w fun e w' => e = .returned (.tuple #[.int .i64 (ws.getD k 0), .bool true]) ∧ Chg w w' c (c + 2) ∧ Pu w' c ws (k + 1) := by
  have HP : Hid (Pu w c ws k) := h
  obtain ⟨h1, h2, h3, cap, s, r, h4⟩ := h
  have hc0 : w.cell? ⟨c + 1, 0, none⟩ = some (.chan (some c)) := by rw [cell_of_row _ _ _ _ _ _ h3]; rfl
  have hc1 : (w.setChan c cap (bufI ws (k + 1)) true s (r + 1) false).cell? ⟨c + 1, 1, none⟩ = some (.int .i64 k) := by
    rw [cell_of_row _ (c + 1) 1 #[.chan (some c), .int .i64 k] 110 (0, 0) (by rw [← h3]; simp only [World.setChan]; rw [Array.getElem?_setIfInBounds_ne (by omega)])]; rfl
  have hf1 : (w.setChan c cap (bufI ws (k + 1)) true s (r + 1) false).frozen? ⟨c + 1, 1, none⟩ = false := 
    frozen_of_row _ (c + 1) 1 #[.chan (some c), .int .i64 k] 110 (by rw [← h3]; simp only [World.setChan]; rw [Array.getElem?_setIfInBounds_ne (by omega)])
  have HF : Hid (Pu ((w.setChan c cap (bufI ws (k + 1)) true s (r + 1) false).setCell ⟨c + 1, 1, none⟩ (.int .i64 ((k : Int) + 1))) c ws (k + 1)) := HP.out.took (cap := cap) (s := s) (r := r + 1) hk
  have H4 : Hid (w.heap[c]? = some (.chan cap (bufI ws k) true s r false)) := h4
  have HX : Hid ((bufI ws k).getD 0 undef = .int .i64 (ws.getD k 0)) := bufI_get ws k hk
  have HN : Hid ((bufI ws k).extract 1 (bufI ws k).size = bufI ws (k + 1)) := bufI_next ws k hk
  have HS : Hid (0 < (bufI ws k).size) := bufI_pos ws k hk
  clear h1 h2 h3 h4
  generalize ws.getD k 0 = x at HX ⊢
  go_enter Try.func89, Try.ntmps89
  iterate 13 go_step
  refine wp_regc (id := 1) ?_
  simp only [List.size_toArray, List.length_cons, List.length_nil, Nat.reduceAdd, Nat.zero_add, List.range, List.range.loop]
  iterate 4 (refine regc_op rfl rfl (fun K hK => ?_); go_simp; refine hK _ _ ?_; clear hK K)
  refine regc_recv (c := c) (cap := cap) (s := s) (r := r) (buf := bufI ws k) (tm := false) (closed := true) (z := .int .i64 0) rfl rfl (by simp [go_sem, rcase, Act.eval]) H4.out HS.out ?_
  rw [HX.out, HN.out]
  iterate 5 (refine regc_op rfl rfl (fun K hK => ?_); go_simp; refine hK _ _ ?_; clear hK K)
  refine regc_end ?_
  go_wp2_with fail
  go_ret2
  exact ⟨rfl, ((chg_setChan w c cap _ _ _ _ _).wide (Nat.le_refl _) (by omega)).trans ((chg_setCell _ (c + 1) 1 _).wide (by omega) (Nat.le_refl _)), HF.out⟩
set_option maxRecDepth 100000 in
set_option maxHeartbeats 2000000 in
theorem take_none (ws : List Int) (c : Nat) (w : World) (h : Pu w c ws ws.length) :
    Calls Try.prog 89 #[.pointer (some ⟨c + 1, 0, none⟩)] w fun e w' => e = .returned (.tuple #[.int .i64 0, .bool false]) ∧ w' = w := by
  obtain ⟨h1, h2, h3, cap, s, r, h4⟩ := h
  rw [bufI_end] at h4
  have hc0 : w.cell? ⟨c + 1, 0, none⟩ = some (.chan (some c)) := by rw [cell_of_row _ _ _ _ _ _ h3]; rfl
  have H4 : Hid (w.heap[c]? = some (.chan cap #[] true s r false)) := h4
  clear h1 h2 h3 h4
  go_enter Try.func89, Try.ntmps89
  iterate 13 go_step
  refine wp_regc (id := 1) ?_
  simp only [List.size_toArray, List.length_cons, List.length_nil, Nat.reduceAdd, Nat.zero_add, List.range, List.range.loop]
  iterate 4 (refine regc_op rfl rfl (fun K hK => ?_); go_simp; refine hK _ _ ?_; clear hK K)
  refine regc_shut (c := c) (cap := cap) (s := s) (r := r) (tm := false) (z := .int .i64 0) rfl rfl (by simp [go_sem, rcase, Act.eval]) H4.out ?_
  iterate 5 (refine regc_op rfl rfl (fun K hK => ?_); go_simp; refine hK _ _ ?_; clear hK K)
  refine regc_end ?_
  go_wp2_with fail
  go_ret2
  exact ⟨rfl, rfl⟩
end Go.Proofs.Ytonbimgdkafnjaa
