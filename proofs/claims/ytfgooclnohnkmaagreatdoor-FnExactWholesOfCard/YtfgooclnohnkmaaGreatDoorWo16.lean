/- Proved: several texts in one: what each proves is said ahead of it. -/
import Derived.Deep.WholeRow
import Derived.Laws.ResultCell
import Derived.Laws.CopyOwn
import Derived.Test.YtfgooclnohnkmaaGreatDoorWo15
/- Proved: the powers of a root, once round, in an array of 32 numbers. -/
namespace Go.Proofs.YtfgooclnohnkmaaGreatDoor
open Go.ChangeShapes Go.WideShapes Go.ChangeAt Go.RowKit
set_option linter.unusedVariables false
set_option linter.unusedSimpArgs false
/-- the cells of 32 numbers -/
def pwA (ls : List Nat) : Array Value := (ls.map (fun n : Nat => Value.int .i64 (n : Int))).toArray
theorem pwA_size {ls : List Nat} (h : ls.length = 32) : (pwA ls).size = 32 := by simp [pwA, h]
theorem pwA_at {ls : List Nat} (h : ls.length = 32) {j : Nat} (hj : j < 32) : (pwA ls)[j]? = some (.int .i64 ((ls.getD j 0 : Nat) : Int)) := by
  simp [pwA, h, hj, List.getD]
theorem pwA_set {ls : List Nat} (h : ls.length = 32) {j : Nat} (hj : j < 32) (y : Nat) : (pwA ls).setIfInBounds j (.int .i64 (y : Int)) = pwA (ls.set j y) := by
  simp only [pwA, List.setIfInBounds_toArray]
  congr 1
  simp [List.map_set]
theorem pwA_one (ls : List Nat) : (pwA ls).all (·.oneCell') = true := by
  simp [pwA, Value.oneCell']
theorem infoPw : (Tryz.prog.info? 217).map (·.size) = some 32 := by kernel_rfl
/-- 32 numbers lie at block g -/
structure Pw (w : World) (g : Nat) (ls : List Nat) : Prop where
  blk : w.heap[g]? = some (.cells (pwA ls) 217 (0, 0))
  len : ls.length = 32
theorem Pw.lt {w : World} {g : Nat} {ls : List Nat} (h : Pw w g ls) : g < w.heap.size := (Array.getElem?_eq_some_iff.1 h.blk).1
theorem Pw.at {w : World} {g : Nat} {ls : List Nat} (h : Pw w g ls) {j : Nat} (hj : j < 32) : w.cell? ⟨g, j, none⟩ = some (.int .i64 ((ls.getD j 0 : Nat) : Int)) := by
  rw [cell_of_row _ _ _ _ _ _ h.blk, pwA_at h.len hj]
theorem Pw.fro {w : World} {g : Nat} {ls : List Nat} (h : Pw w g ls) (j : Nat) : w.frozen? ⟨g, j, none⟩ = false := frozen_of_row _ _ _ _ _ h.blk
theorem Pw.old {w w' : World} {g : Nat} {ls : List Nat} (h : Pw w g ls) (o : Old w w') : Pw w' g ls := ⟨by rw [o.block g h.lt]; exact h.blk, h.len⟩
theorem Pw.by_ {w w' : World} {g : Nat} {ls : List Nat} {ob : Option Nat} (h : Pw w g ls) (o : w.grownBy w' ob) (hne : ∀ k, ob = some k → k ≠ g) : Pw w' g ls := ⟨(o.block g h.lt (fun e => hne g e.symm rfl)).trans h.blk, h.len⟩
theorem Pw.set {w : World} {g : Nat} {ls : List Nat} (h : Pw w g ls) {j : Nat} (hj : j < 32) (y : Nat) : Pw (w.setCell ⟨g, j, none⟩ (.int .i64 (y : Int))) g (ls.set j y) :=
  ⟨by rw [heap_setCell_same w g j _ _ _ h.blk, pwA_set h.len hj y], by rw [List.length_set, h.len]⟩
theorem Pw.other {w : World} {g : Nat} {ls : List Nat} (h : Pw w g ls) (p : Addr) (hp : g ≠ p.block) (v : Value) : Pw (w.setCell p v) g ls :=
  ⟨by rw [heap_setCell_other w p g v hp]; exact h.blk, h.len⟩
theorem Pw.row {w : World} {g : Nat} {ls : List Nat} (h : Pw w g ls) (ls' : List Nat) (hl : ls'.length = 32) : Pw (w.setRow g (pwA ls')) g ls' :=
  ⟨setRow_heap w g _ _ _ _ h.blk, hl⟩
theorem Pw.new' (w : World) (ls : List Nat) (g : Nat) (hl : ls.length = 32) (hg : g = w.heap.size) : Pw (w.alloc (.cells (pwA ls) 217)) g ls := by subst hg; exact ⟨heap_alloc_new w _, hl⟩
theorem Old.rowP {a b : World} (h : Old a b) {g : Nat} (hg : a.heap.size ≤ g) (cs : Array Value) : Old a (b.setRow g cs) :=
  ⟨h.os, h.tape, h.output, by rw [setRow_size]; exact h.size, fun k hk => by rw [setRow_other b g k cs (by omega)]; exact h.block k hk⟩
section
variable {ops : Array Oper} {rest : List Oper} {a : Act} {w : World} {Q : Exit → Act → World → Prop} {ty : TypeId} {pos : String} {d : Option Tmp} {x y : Operand}
theorem load_pw {af : Array Edge} {g : Nat} {ls : List Nat} (hs : Pw w g ls) (hx : a.eval x = .pointer (some ⟨g, 0, none⟩))
    (h : wpList Tryz.prog ops Q rest (a.put d (.agg (pwA ls))) w) : wpList Tryz.prog ops Q (⟨d, .load 217 x, ty, pos, af, none⟩ :: rest) a w :=
  wpList_load_row rfl 217 x rfl g hx 217 (pwA ls) (0, 0) _ hs.blk Tryz.underlying217 rfl (by rw [pwA_size hs.len]; exact infoPw) h
theorem store_pw {af : Array Edge} {g : Nat} {ls : List Nat} (hs : Pw w g ls) (ls' : List Nat) (hl : ls'.length = 32) (hx : a.eval x = .pointer (some ⟨g, 0, none⟩)) (hy : a.eval y = .agg (pwA ls'))
    (h : wpList Tryz.prog ops Q rest (a.put d undef) (w.setRow g (pwA ls'))) : wpList Tryz.prog ops Q (⟨d, .store 217 x y, ty, pos, af, none⟩ :: rest) a w := by
  refine wpList_store_row rfl 217 x y rfl g (pwA ls') hx hy 217 (pwA ls) hs.blk (by rw [pwA_size hl]; exact infoPw) (by rw [pwA_size hs.len, pwA_size hl]) (pwA_one _) h
end
theorem ret_pw {fn : Func} {p : Tmp} (h : fn.results = #[.cell p 217]) (tmps : Array Value) (w : World) {g : Nat} {ls : List Nat} (hp : tmps.getD p undef = .pointer (some ⟨g, 0, none⟩)) (hs : Pw w g ls) :
    (results fn tmps).run Tryz.prog w = .ok (.agg (pwA ls)) w :=
  results_cell_row h tmps w g 217 (pwA ls) (0, 0) _ hp hs.blk Tryz.underlying217 rfl (by rw [pwA_size hs.len]; exact infoPw)
/-- the powers, the first k laid -/
def pwS (P R : Nat) : Nat → List Nat
  | 0 => List.replicate 32 0
  | k + 1 => (pwS P R k).set k (R ^ k % P)
theorem pwS_len (P R : Nat) : ∀ k, (pwS P R k).length = 32
  | 0 => by simp [pwS]
  | k + 1 => by rw [pwS, List.length_set, pwS_len P R k]
theorem pwS_get (P R : Nat) : ∀ k j, j < k → k ≤ 32 → (pwS P R k).getD j 0 = R ^ j % P
  | 0, j, h, _ => by omega
  | k + 1, j, h, h2 => by
    rw [pwS]
    by_cases hj : j = k
    · subst hj
      simp [List.getD, pwS_len, show j < 32 by omega]
    · have := pwS_get P R k j (by omega) (by omega)
      simp only [List.getD] at this ⊢
      rw [List.getElem?_set_ne (by omega)]
      exact this
set_option maxRecDepth 100000 in
set_option maxHeartbeats 2000000 in
theorem impl_powers (P N R : Nat) (w : World) (hP : 2 ≤ P ∧ P ≤ 268435456) (hN : 2 ≤ N ∧ N ≤ 16) (hR : R < P) :
    Calls Tryz.prog 209 #[.agg #[.int .i64 P, .int .i64 N, .int .i64 R]] w fun e w' => e = .returned (.agg (pwA (pwS P R (2 * N)))) ∧ Old w w' := by
  have HM : Hid (∀ k, R ^ k % P * R % P = R ^ (k + 1) % P) := fun k => by rw [Nat.pow_succ, Nat.mul_mod, Nat.mod_mod, ← Nat.mul_mod]
  have HXL : Hid (∀ k, R ^ k % P < P) := fun k => Nat.mod_lt _ (by omega)
  have H1 : Hid (1 = R ^ 0 % P) := by rw [Nat.pow_zero, Nat.mod_eq_of_lt (by omega)]; rfl
  have HS : Hid (∀ k, pwS P R (k + 1) = (pwS P R k).set k (R ^ k % P)) := fun k => rfl
  have HL : Hid (∀ k, (pwS P R k).length = 32) := fun k => pwS_len P R k
  have H0 : Hid (pwS P R 0 = List.replicate 32 0) := rfl
  generalize pwS P R = F at *
  obtain ⟨E, eE⟩ : ∃ E : Nat → Nat, E = fun k => R ^ k % P := ⟨_, rfl⟩
  have HM' : Hid (∀ k, E k * R % P = E (k + 1)) := by rw [eE]; exact HM
  have HXL' : Hid (∀ k, E k < P) := by rw [eE]; exact HXL
  have H1' : Hid (1 = E 0) := by rw [eE]; exact H1
  have HS' : Hid (∀ k, F (k + 1) = (F k).set k (E k)) := by rw [eE]; exact HS
  clear HM HXL H1 HS eE
  obtain ⟨M, hM⟩ : ∃ M, M = 2 * N := ⟨_, rfl⟩
  have eM : 2 * (N : Int) = (M : Int) := by omega
  rw [← hM]
  have hM2 : M ≤ 32 := by omega
  have hpn : ¬ (P : Int) = 0 := by omega
  have hpn2 : ¬ P = 0 := by omega
  have HZ : Hid (pwA (List.replicate 32 0) = #[.int .i64 0, .int .i64 0, .int .i64 0, .int .i64 0, .int .i64 0, .int .i64 0, .int .i64 0, .int .i64 0, .int .i64 0, .int .i64 0, .int .i64 0, .int .i64 0, .int .i64 0, .int .i64 0, .int .i64 0, .int .i64 0, .int .i64 0, .int .i64 0, .int .i64 0, .int .i64 0, .int .i64 0, .int .i64 0, .int .i64 0, .int .i64 0, .int .i64 0, .int .i64 0, .int .i64 0, .int .i64 0, .int .i64 0, .int .i64 0, .int .i64 0, .int .i64 0]) := rfl
  have HPA : Hid (Pw (((w.alloc (.cells #[.int .i64 P, .int .i64 N, .int .i64 R] 151)).alloc (.cells (pwA (List.replicate 32 0)) 217)).alloc (.cells (pwA (List.replicate 32 0)) 217)) (w.heap.size + 1) (List.replicate 32 0)) := (Pw.new' (w.alloc (.cells #[.int .i64 P, .int .i64 N, .int .i64 R] 151)) (List.replicate 32 0) _ (by simp) (by simp)).old ((Old.refl _).alloc _)
  have HPB : Hid (Pw (((w.alloc (.cells #[.int .i64 P, .int .i64 N, .int .i64 R] 151)).alloc (.cells (pwA (List.replicate 32 0)) 217)).alloc (.cells (pwA (List.replicate 32 0)) 217)) (w.heap.size + 1 + 1) (F 0)) := by rw [H0.out]; exact (Pw.new' ((w.alloc (.cells #[.int .i64 P, .int .i64 N, .int .i64 R] 151)).alloc (.cells (pwA (List.replicate 32 0)) 217)) (List.replicate 32 0) _ (by simp) (by simp))
  have HRC : Hid (Rc (((w.alloc (.cells #[.int .i64 P, .int .i64 N, .int .i64 R] 151)).alloc (.cells (pwA (List.replicate 32 0)) 217)).alloc (.cells (pwA (List.replicate 32 0)) 217)) w.heap.size P N R) := (Rc.new w P N R).old (((Old.refl _).alloc _).alloc _)
  rw [HZ.out] at HPA HPB HRC
  clear hM HZ H0
  go_enter Tryz.func209, Tryz.ntmps209
  go_wp2_with fail
  go_loopw [4, 5, 9] (fun x y i W => ∃ k : Nat, k ≤ M ∧ i = .int .i64 k ∧ x = .int .i64 ((E k : Nat) : Int) ∧ Hid (Pw W (w.heap.size + 1) (List.replicate 32 0)) ∧ Hid (Pw W (w.heap.size + 1 + 1) (F k)) ∧ Hid (Rc W w.heap.size P N R) ∧ Hid (Old w W)) (fun _ _ i _ => M - (intOf i).toNat)
  case atStart => exact ⟨0, by omega, rfl, by rw [← H1'.out]; rfl, HPA, HPB, HRC, (((Old.refl _).alloc _).alloc _).alloc _⟩
  case round =>
    obtain ⟨k, hk, rfl, rfl, PA, PB, RC, HG⟩ := hrel
    clear HPA HPB HRC
    by_cases hlt : k < M
    · have d1 : decide ((k : Int) < (M : Int)) = true := by simp; omega
      have i1 : (k : Int) < 32 := by omega
      have c1 := PB.out.at (show k < 32 by omega)
      have c2 := PB.out.fro k
      have HP2 : Hid (Pw (wr.setCell ⟨w.heap.size + 1 + 1, k, none⟩ (.int .i64 ((E k : Nat) : Int))) (w.heap.size + 1 + 1) (F (k + 1))) := by rw [HS'.out]; exact PB.out.set (by omega) _
      have HA2 : Hid (Pw (wr.setCell ⟨w.heap.size + 1 + 1, k, none⟩ (.int .i64 ((E k : Nat) : Int))) (w.heap.size + 1) (List.replicate 32 0)) := PA.out.other _ (by simp) _
      have HG2 : Hid (Old w (wr.setCell ⟨w.heap.size + 1 + 1, k, none⟩ (.int .i64 ((E k : Nat) : Int)))) := HG.out.own (by simp; omega) _
      have HR2 : Hid (Rc (wr.setCell ⟨w.heap.size + 1 + 1, k, none⟩ (.int .i64 ((E k : Nat) : Int))) w.heap.size P N R) := ⟨by have := RC.out.lt; simpa using this, by rw [World.cell?_of_block (w := wr) (heap_setCell_other wr ⟨w.heap.size + 1 + 1, k, none⟩ w.heap.size _ (by simp; omega))]; exact RC.out.c0, by rw [World.cell?_of_block (w := wr) (heap_setCell_other wr ⟨w.heap.size + 1 + 1, k, none⟩ w.heap.size _ (by simp; omega))]; exact RC.out.c1, by rw [World.cell?_of_block (w := wr) (heap_setCell_other wr ⟨w.heap.size + 1 + 1, k, none⟩ w.heap.size _ (by simp; omega))]; exact RC.out.c2⟩
      have z0 := HR2.out.c0
      have z2 := HR2.out.c2
      have hx := HXL'.out k
      have HN : Hid (E k * R % P = E (k + 1)) := HM'.out k
      generalize (F k).getD k 0 = oldv at *
      generalize E k = x at *
      have hmul := mul_lt28 x R P hx hR hP.2
      have e1 : (x : Int) * (R : Int) = ((x * R : Nat) : Int) := by simp
      have e2 : ((x * R : Nat) : Int) % (P : Int) = ((x * R % P : Nat) : Int) := by simp
      generalize x * R = s at *
      generalize s % P = q at *
      go_wp2_with fail
      exact ⟨⟨k + 1, by omega, by go_num, by rw [← HN.out, e2], HA2, HP2, HR2, HG2⟩, by simp [intOf]; omega⟩
    · have d1 : decide ((k : Int) < (M : Int)) = false := by simp; omega
      obtain rfl : k = M := by omega
      have HL2 : Hid ((F k).length = 32) := HL.out k
      go_wp2_with (first | ((with_reducible refine load_pw PB.out ?_ ?_); exact rfl; simp only [Act.put, List.setIfInBounds_toArray, List.set_cons_succ, List.set_cons_zero]) | ((with_reducible refine store_pw PA.out (F k) HL2.out ?_ ?_ ?_); exact rfl; exact rfl; simp only [Act.put]) | ((with_reducible refine bodyPost_ret (ret_pw Tryz.results209 _ _ ?_ (PA.out.row (F k) HL2.out)) ?_ ?_); exact rfl; exact rfl; exact ⟨rfl, HG.out.rowP (by omega) _⟩))
end Go.Proofs.YtfgooclnohnkmaaGreatDoor
/- Proved: a part of a row, cut out of it. -/
namespace Go.Proofs.YtfgooclnohnkmaaGreatDoor
open Go.ChangeShapes Go.WideShapes Go.ChangeAt Go.RowKit
set_option linter.unusedVariables false
set_option linter.unusedSimpArgs false
theorem impl_partOf (g N part parts size : Nat) (w : World) (hN : 2 ≤ N ∧ N ≤ 16) (hp : N = parts * size) (h1 : 1 ≤ parts) (h2 : 1 ≤ size) (hlt : part < parts) :
    Calls Tryz.prog 212 #[.slice (some ⟨g, 0, none⟩) N N, .int .i64 part, .int .i64 parts] w fun e w' => e = .returned (.slice (some ⟨g, part * size, none⟩) size (N - part * size)) ∧ w' = w := by
  have hd : N / parts = size := by rw [hp]; exact Nat.mul_div_cancel_left _ (by omega)
  have e0 : (N : Int) / (parts : Int) = (size : Int) := by rw [← hd]; simp
  have hle : (part + 1) * size ≤ N := by rw [hp]; exact Nat.mul_le_mul_right _ (by omega)
  have e1 : (part : Int) * (size : Int) = ((part * size : Nat) : Int) := by simp
  have e2 : ((part : Int) + 1) * (size : Int) = (((part + 1) * size : Nat) : Int) := by simp
  have e3 : (part + 1) * size = part * size + size := by rw [Nat.add_mul, Nat.one_mul]
  have hpt : part ≤ 16 := by
    have := Nat.mul_le_mul_right size hlt
    have : parts ≤ parts * size := Nat.le_mul_of_pos_right _ (by omega)
    omega
  have hpp : parts ≤ 16 := by
    have : parts ≤ parts * size := Nat.le_mul_of_pos_right _ (by omega)
    omega
  have hsz : size ≤ 16 := by
    have : size ≤ parts * size := Nat.le_mul_of_pos_left _ (by omega)
    omega
  rw [e3] at e2 hle
  generalize part * size = lo at *
  obtain ⟨hi, hhi⟩ : ∃ hi, hi = lo + size := ⟨_, rfl⟩
  rw [← hhi] at e2 hle
  have es : hi - lo = size := by omega
  have hlh : lo ≤ hi := by omega
  have hlh2 : lo < hi := by omega
  have hle' : (lo : Int) ≤ (hi : Int) := by omega
  have hle2 : (hi : Int) ≤ (N : Int) := by omega
  have hpn : ¬ (parts : Int) = 0 := by omega
  have hpn2 : ¬ parts = 0 := by omega
  rw [← es]
  clear hp hd e3 hhi es
  go_enter Tryz.func212, Tryz.ntmps212
  go_wp2_with fail
  all_goals
    go_ret
    first
      | (exfalso; omega)
      | exact ⟨rfl, rfl⟩
end Go.Proofs.YtfgooclnohnkmaaGreatDoor
/- Proved: a row copied whole into a row of the call's own. -/
namespace Go.Proofs.YtfgooclnohnkmaaGreatDoor
open Go.ChangeShapes Go.WideShapes Go.ChangeAt Go.RowKit
set_option linter.unusedVariables false
set_option linter.unusedSimpArgs false
theorem infoIntSize : (Tryz.prog.info? 3).map (·.size) = some 1 := by kernel_rfl
theorem splice_full (cur cs : List Value) (h : cur.length = cs.length) : splice cur 0 cs = cs := by
  simp [splice, h]
theorem copy_row {ops : Array Oper} {rest : List Oper} {a : Act} {w : World} {Q : Exit → Act → World → Prop} {ty : TypeId} {pos : String} {d : Option Tmp} {x y : Operand} {af : Array Edge}
    (g base N b o cap : Nat) (us xs : List Int) (hx : a.eval x = .slice (some ⟨g, 0, none⟩) N N) (hy : a.eval y = .slice (some ⟨b, o, none⟩) N cap) (hO : OwnI w base g N us) (hu : us.length = N) (hl : xs.length = N)
    (hsrc : ∀ j, j < N → w.cell? ⟨b, o + j, none⟩ = some (.int .i64 (xs.getD j 0)))
    (h : ∀ w', OwnI w' base g N xs → Below g w w' → wpList Tryz.prog ops Q rest (a.put d (goInt N)) w') :
    wpList Tryz.prog ops Q (⟨d, .call { callee := .builtin .copy, args := #[x, y], argTypes := #[23, 23] }, ty, pos, af, none⟩ :: rest) a w := by
  rcases hO.2 with ⟨e, _⟩ | ⟨g', cap', cur, e, hb, hg, h1, h2, h3, h4⟩
  · cases e
  · injection e with e1 e2 e3
    injection e1 with e4
    injection e4 with e5
    subst e5 e3
    have hcl : cur.toList.length = (xs.map (Value.int .i64)).length := by simp [h3, hl]
    refine wpList_copy_splice rfl x y 23 23 rfl 3 Tryz.underlying23 infoIntSize _ _ _ _ _ _ hx hy g 0 cur.toList 3 (by rw [Array.toArray_toList]; exact hg) (xs.map (Value.int .i64)) (by simp [hl]) (fun _ => ⟨rfl, _, rfl, ?_⟩) (by rw [hcl]; omega) (by simp [Value.oneCell']) g w (Below.refl _ _) (Nat.le_refl _) ?_
    · intro j v hj
      have hjl : j < N := by
        have := (List.getElem?_eq_some_iff.1 hj).1
        simpa [hl] using this
      have e1 : v = .int .i64 (xs.getD j 0) := by
        have hjx : j < xs.length := by omega
        simp [List.getElem?_map, hjx] at hj
        rw [← hj]
        simp [List.getD, hjx]
      have e2 : (⟨b, o, none⟩ : Addr).add j = ⟨b, o + j, none⟩ := by
        unfold Addr.add
        split
        · rename_i h; simp [h]
        · rfl
      rw [e2, e1]
      exact hsrc j hjl
    · intro w' hg' hb'
      rw [show (xs.map (Value.int .i64)).length = N by simp [hl]]
      refine h w' ⟨by simp [hl], Or.inr ⟨g, N, _, rfl, hb, hg'.out, Nat.le_refl _, h2, ?_, ?_⟩⟩ hb'
      · rw [splice_full _ _ hcl]; simp [hl]
      · rw [splice_full _ _ hcl, List.toList_toArray, Nat.mul_one]
        exact List.take_of_length_le (by simp [hl])
end Go.Proofs.YtfgooclnohnkmaaGreatDoor
/- Proved: a row copied by the program, and its changes madeAhead and madeBack. -/
namespace Go.Proofs.YtfgooclnohnkmaaGreatDoor
open Go.ChangeShapes Go.WideShapes Go.ChangeAt Go.RowKit
set_option linter.unusedVariables false
set_option linter.unusedSimpArgs false
theorem own_some {W : World} {base : Nat} {v : Value} {zs : List Int} (h : Own W base v zs) (h0 : 0 < zs.length) : ∃ g rc, v = .slice (some ⟨g, 0, none⟩) zs.length rc ∧ zs.length ≤ rc := by
  rcases h.2 with ⟨e, hn⟩ | ⟨_, _, _, e, _, _, hn, _⟩
  · omega
  · exact ⟨_, _, e, hn⟩
set_option maxRecDepth 100000 in
set_option maxHeartbeats 4000000 in
theorem impl_copied (p r : Int) (n : Bool) (Nn : Nat) (zs : List Int) (ua : Option Addr) (w : World) (hv : Row w (.slice ua Nn Nn) zs) (hN : 2 ≤ Nn ∧ Nn ≤ 16) (la : zs.length = Nn) :
    Calls Tryz.prog 190 #[.agg #[.int .i64 p, .int .i64 Nn, .int .i64 r, .bool n, .slice ua Nn Nn]] w fun e w' => ∃ g cp, e = .returned (.slice (some ⟨g, 0, none⟩) Nn cp) ∧ Nn ≤ cp ∧ Old w w' ∧ Own w' w.heap.size (.slice (some ⟨g, 0, none⟩) Nn cp) zs := by
  obtain ⟨i0, hi, hz0, hz1, hz2⟩ := info_parts Tryz.infoInt
  rcases hv with ⟨_, _, e, e'⟩ | ⟨b1, o1, cap1, e, hb1, h01, hc1⟩
  · subst e'
    simp at la
    omega
  simp only [Value.slice.injEq] at e
  obtain ⟨rfl, e7, e8⟩ := e
  have HC1 : Hid (∀ j, j < Nn → w.cell? ⟨b1, o1 + j, none⟩ = some (.int .i64 (zs.getD j 0))) := fun j hj => hc1 j (by omega)
  clear hc1 e7 e8 h01
  obtain ⟨wB, hwB⟩ : ∃ wB, wB = w.alloc (.cells #[.int .i64 p, .int .i64 Nn, .int .i64 r, .bool n, .slice (some ⟨b1, o1, none⟩) Nn Nn] 153) := ⟨_, rfl⟩
  have HWB : Hid (Old w wB) := by rw [hwB]; exact (Old.refl w).alloc _
  have HB : Hid (∀ W', Old wB W' → (W'.cell? ⟨w.heap.size, 1, none⟩ = some (.int .i64 Nn) ∧ W'.cell? ⟨w.heap.size, 4, none⟩ = some (.slice (some ⟨b1, o1, none⟩) Nn Nn))) := fun W' g => by
    rw [hwB] at g
    exact ⟨(g.cell (p := ⟨w.heap.size, 1, none⟩) (by simp)).trans (cell_at _ _ _ _ _ rfl), (g.cell (p := ⟨w.heap.size, 4, none⟩) (by simp)).trans (cell_at _ _ _ _ _ rfl)⟩
  have HSZ : wB.heap.size = w.heap.size + 1 := by rw [hwB]; simp
  go_enter Tryz.func190, Tryz.ntmps190
  go_wp2_with (first
    | (at_make; rw [← hwB]; refine wpList_make_full _ rfl _ _ 23 rfl wB.heap.size 3 i0 (.int .i64 0) 1 Tryz.underlying23 hi hz0 hz1 .i64 .i64 _ _ Nn rfl rfl rfl rfl (by rw [hz2]; omega) (by unfold maxLen; omega) (Nat.le_refl _) ?_; intro w1 hown hgrow; have HO1 : Hid (OwnI w1 (w.heap.size + 1) (w.heap.size + 1) Nn (List.replicate Nn 0)) := (by rw [made_ints, HSZ] at hown; exact hown); have HG1 : Hid (Old wB w1) := Old.by_ (Old.refl _) hgrow (fun b hb => by cases hb); have z4 := (HB.out w1 HG1.out).2; rw [HSZ]; clear hown hgrow)
    | ((with_reducible refine copy_row (w.heap.size + 1) (w.heap.size + 1) Nn b1 o1 Nn (List.replicate Nn 0) zs ?_ ?_ HO1.out ?_ la ?_ ?_); exact rfl; exact rfl; (simp); (intro j hj; exact ((Old.trans HWB.out HG1.out).cell (p := ⟨b1, o1 + j, none⟩) hb1).trans (HC1.out j hj)); intro w2 ho2 hbe2; have HO2 : Hid (OwnI w2 (w.heap.size + 1) (w.heap.size + 1) Nn zs) := ho2; have HG2 : Hid (Old w w2) := Old.trans HWB.out (Below.trans HG1.out (hbe2.mono (by rw [HSZ]; omega))); clear ho2 hbe2))
  go_ret
  exact ⟨_, _, rfl, Nat.le_refl _, HG2.out, (HO2.out.own la).low (by omega)⟩
set_option maxRecDepth 100000 in
set_option maxHeartbeats 4000000 in
theorem impl_madeBack_c (p r : Int) (Nn : Nat) (zs : List Int) (ua : Option Addr) (w : World) (KC : ∀ W, Old w W → Calls Tryz.prog 190 #[.agg #[.int .i64 p, .int .i64 Nn, .int .i64 r, .bool false, .slice ua Nn Nn]] W fun e w' => ∃ g cp, e = .returned (.slice (some ⟨g, 0, none⟩) Nn cp) ∧ Nn ≤ cp ∧ Old W w' ∧ Own w' W.heap.size (.slice (some ⟨g, 0, none⟩) Nn cp) zs) :
    Calls Tryz.prog 157 #[.agg #[.int .i64 p, .int .i64 Nn, .int .i64 r, .bool false, .slice ua Nn Nn]] w fun e w' => ∃ g cp, e = .returned (.slice (some ⟨g, 0, none⟩) Nn cp) ∧ Nn ≤ cp ∧ Old w w' ∧ Own w' w.heap.size (.slice (some ⟨g, 0, none⟩) Nn cp) zs := by
  obtain ⟨wB, hwB⟩ : ∃ wB, wB = w.alloc (.cells #[.int .i64 p, .int .i64 Nn, .int .i64 r, .bool false, .slice ua Nn Nn] 153) := ⟨_, rfl⟩
  have HWB : Hid (Old w wB) := by rw [hwB]; exact (Old.refl w).alloc _
  have kc := KC wB HWB.out
  clear KC
  go_enter Tryz.func157, Tryz.ntmps157
  go_wp2_with fail
  rw [← hwB]
  refine kc.mono ?_
  rintro e w2 ⟨g, cp, rfl, hcp, g2, o2⟩
  have HG2 : Hid (Old w w2) := Old.trans HWB.out g2
  have HO2 : Hid (Own w2 w.heap.size (.slice (some ⟨g, 0, none⟩) Nn cp) zs) := o2.low HWB.out.size
  clear g2 o2
  go_wp2_with fail
  go_ret
  exact ⟨g, cp, rfl, hcp, HG2.out, HO2.out⟩
set_option maxRecDepth 100000 in
set_option maxHeartbeats 4000000 in
theorem impl_madeBack_t (p r : Int) (Nn : Nat) (zs : List Int) (ua : Option Addr) (w : World) (KC : ∀ W, Old w W → Calls Tryz.prog 189 #[.agg #[.int .i64 p, .int .i64 Nn, .int .i64 r], .slice ua Nn Nn] W fun e w' => ∃ v', e = .returned v' ∧ Old W w' ∧ Own w' W.heap.size v' zs) (hz : zs.length = Nn) (h0 : 0 < Nn) :
    Calls Tryz.prog 157 #[.agg #[.int .i64 p, .int .i64 Nn, .int .i64 r, .bool true, .slice ua Nn Nn]] w fun e w' => ∃ g cp, e = .returned (.slice (some ⟨g, 0, none⟩) Nn cp) ∧ Nn ≤ cp ∧ Old w w' ∧ Own w' w.heap.size (.slice (some ⟨g, 0, none⟩) Nn cp) zs := by
  obtain ⟨wB, hwB⟩ : ∃ wB, wB = w.alloc (.cells #[.int .i64 p, .int .i64 Nn, .int .i64 r, .bool true, .slice ua Nn Nn] 153) := ⟨_, rfl⟩
  have HWB : Hid (Old w wB) := by rw [hwB]; exact (Old.refl w).alloc _
  have kc := KC wB HWB.out
  clear KC
  go_enter Tryz.func157, Tryz.ntmps157
  go_wp2_with fail
  rw [← hwB]
  refine kc.mono ?_
  rintro e w2 ⟨v2, rfl, g2, o2⟩
  have HG2 : Hid (Old w w2) := Old.trans HWB.out g2
  obtain ⟨g, cp, e2, hcp⟩ := own_some o2 (by omega)
  rw [hz] at e2 hcp
  subst e2
  have HO2 : Hid (Own w2 w.heap.size (.slice (some ⟨g, 0, none⟩) Nn cp) zs) := o2.low HWB.out.size
  clear g2 o2
  go_wp2_with fail
  go_ret
  exact ⟨g, cp, rfl, hcp, HG2.out, HO2.out⟩
end Go.Proofs.YtfgooclnohnkmaaGreatDoor
/- Proved: rows beside their rings as things; rows of rows out of things; contracts of with and numbersOf. -/
namespace Go.Proofs.YtfgooclnohnkmaaGreatDoor
open Go.ChangeShapes Go.WideShapes Go.ChangeAt Go.RowKit
set_option linter.unusedVariables false
set_option linter.unusedSimpArgs false
/-- a thing beside its ring -/
def TR (P N R : Int) (a : Bool) (E : Thing) : Thing := fun W B cs => ∃ x, cs = [.int .i64 P, .int .i64 N, .int .i64 R, .bool a, x] ∧ E W B [x]
theorem good_TR (P N R : Int) (a : Bool) {E : Thing} (g : GoodT E) : GoodT (TR P N R a E) := by
  constructor
  · rintro W W' B cs ⟨x, e, h⟩ hf
    exact ⟨x, e, g.far h hf⟩
  · rintro W B cs ⟨x, e, h⟩ b hb
    exact g.lt h b hb
abbrev elR (N : Int) (a : Bool) (ps : List Int) (Rf : Nat → Int) (zss : List (List Int)) : Nat → Thing := fun k => TR (ps.getD k 0) N (Rf k) a (TI (zss.getD k []))
theorem good_elR (N : Int) (a : Bool) (ps : List Int) (Rf : Nat → Int) (zss : List (List Int)) (k : Nat) : GoodT (elR N a ps Rf zss k) := good_TR _ _ _ _ (good_TI _)
/-- rows beside their rings can be read at v: the rows themselves where us says -/
def RdR (w : World) (v : Value) (m : Nat) (N : Int) (a : Bool) (ps : List Int) (Rf : Nat → Int) (us : Nat → Value) : Prop :=
  ∃ b cap, v = .slice (some ⟨b, 0, none⟩) m cap ∧ b < w.heap.size ∧ ∀ k, k < m → w.cell? ⟨b, k * 5, none⟩ = some (.int .i64 (ps.getD k 0)) ∧ w.cell? ⟨b, k * 5 + 1, none⟩ = some (.int .i64 N) ∧ w.cell? ⟨b, k * 5 + 2, none⟩ = some (.int .i64 (Rf k)) ∧ w.cell? ⟨b, k * 5 + 3, none⟩ = some (.bool a) ∧ w.cell? ⟨b, k * 5 + 4, none⟩ = some (us k)
theorem RdR.old {w w' : World} {v : Value} {m : Nat} {N : Int} {a : Bool} {ps : List Int} {Rf : Nat → Int} {us : Nat → Value} (h : RdR w v m N a ps Rf us) (g : Old w w') : RdR w' v m N a ps Rf us := by
  obtain ⟨b, cap, e, hb, hc⟩ := h
  refine ⟨b, cap, e, Nat.lt_of_lt_of_le hb g.size, fun k hk => ?_⟩
  obtain ⟨h0, h1, h2, h3, h4⟩ := hc k hk
  exact ⟨(g.cell (p := ⟨b, k * 5, none⟩) hb).trans h0, (g.cell (p := ⟨b, k * 5 + 1, none⟩) hb).trans h1, (g.cell (p := ⟨b, k * 5 + 2, none⟩) hb).trans h2, (g.cell (p := ⟨b, k * 5 + 3, none⟩) hb).trans h3, (g.cell (p := ⟨b, k * 5 + 4, none⟩) hb).trans h4⟩
theorem RRs.rd {W : World} {g : Nat} {N : Int} {n : Bool} {ps : List Int} {Rf : Nat → Int} {us : Nat → Option Addr} (h : RRs W g N n ps Rf us ps.length) : RdR W (.slice (some ⟨g, 0, none⟩) ps.length ps.length) ps.length N n ps Rf (fun k => .slice (us k) N.toNat N.toNat) :=
  ⟨g, ps.length, rfl, h.lt, fun k hk => h.at k hk hk⟩
theorem Ows.rd {N : Int} {a : Bool} {ps : List Int} {Rf : Nat → Int} {zss : List (List Int)} {m : Nat} {W : World} {lo hi : Nat} {v : Value} (h0 : 0 < m) (h : Ows (TS 153 5 m (elR N a ps Rf zss)) W lo hi [v]) :
    ∃ us : Nat → Value, RdR W v m N a ps Rf us ∧ ∀ k, k < m → Row W (us k) (zss.getD k []) ∧ ∃ x c, us k = .slice x (zss.getD k []).length c := by
  obtain ⟨_, B, hT, _⟩ := h
  rcases hT with ⟨e, _⟩ | ⟨p, cap, vs, Bs, e, hc, _⟩
  · omega
  simp at e
  subst e
  have hx : ∀ k, k < m → ∃ x, cellsJ 5 vs k = [.int .i64 (ps.getD k 0), .int .i64 N, .int .i64 (Rf k), .bool a, x] ∧ TI (zss.getD k []) W (Bs k) [x] := fun k hk => hc.el k hk
  refine ⟨fun k => (cellsJ 5 vs k).getD 4 (.slice none 0 0), ⟨p, cap, rfl, ownsRow_lt hc.row, fun k hk => ?_⟩, fun k hk => ?_⟩
  · obtain ⟨x, e, hE⟩ := hx k hk
    have c0 := hc.cell k 0 hk (by omega)
    have c1 := hc.cell k 1 hk (by omega)
    have c2 := hc.cell k 2 hk (by omega)
    have c3 := hc.cell k 3 hk (by omega)
    have c4 := hc.cell k 4 hk (by omega)
    show _ ∧ _ ∧ _ ∧ _ ∧ W.cell? ⟨p, k * 5 + 4, none⟩ = some ((cellsJ 5 vs k).getD 4 (.slice none 0 0))
    rw [e] at c0 c1 c2 c3 c4 ⊢
    exact ⟨c0, c1, c2, c3, c4⟩
  · obtain ⟨x, e, hE⟩ := hx k hk
    show Row W ((cellsJ 5 vs k).getD 4 (.slice none 0 0)) _ ∧ ∃ y c, (cellsJ 5 vs k).getD 4 (.slice none 0 0) = .slice y _ c
    rw [e]
    exact ⟨hE.row, hE.slice⟩
theorem cells_five {m k : Nat} {vs : List Value} (h : vs.length = m * 5) (hk : k < m) (a b c d e : Value) : cellsJ 5 (((((vs.set (k * 5 + 0) a).set (k * 5 + 1) b).set (k * 5 + 2) c).set (k * 5 + 3) d).set (k * 5 + 4) e) k = [a, b, c, d, e] := by
  have hl := cellsJ_len (n := 5) h k hk
  rw [cellsJ_set 5 _ k 4 k e (by omega), if_pos rfl, cellsJ_set 5 _ k 3 k d (by omega), if_pos rfl, cellsJ_set 5 _ k 2 k c (by omega), if_pos rfl, cellsJ_set 5 _ k 1 k b (by omega), if_pos rfl, cellsJ_set 5 _ k 0 k a (by omega), if_pos rfl]
  match cellsJ 5 vs k, hl with
  | [_, _, _, _, _], _ => rfl
/-- one element of five cells is stored -/
theorem TSc.store5 {T : TypeId} {m k : Nat} {Es : Nat → Thing} {W : World} {p cap : Nat} {vs : List Value} {Bs : Nat → Nat → Prop} {B : Nat → Prop} (g : ∀ j, GoodT (Es j)) (h : TSc T 5 m k Es W p cap vs Bs) (hk : k < m) (a b c d e : Value)
    (he : ∀ W' : World, (∀ b, b ≠ p → W'.heap[b]? = W.heap[b]?) → Es k W' B [a, b, c, d, e]) (hp : ¬ B p) (hd : ∀ j, j < k → ∀ b, Bs j b → B b → False) :
    ∃ vs', TSc T 5 m (k + 1) Es (((((W.setCell ⟨p, k * 5, none⟩ a).setCell ⟨p, k * 5 + 1, none⟩ b).setCell ⟨p, k * 5 + 2, none⟩ c).setCell ⟨p, k * 5 + 3, none⟩ d).setCell ⟨p, k * 5 + 4, none⟩ e) p cap vs' (fun q => if q = k then B else Bs q) := by
  have h1 := h.fill g 0 (by omega) a
  have h2 := h1.fill g 1 (by omega) b
  have h3 := h2.fill g 2 (by omega) c
  have h4 := h3.fill g 3 (by omega) d
  have h5 := h4.fill g 4 (by omega) e
  refine ⟨_, h5.more (B := B) ?_ hp hd⟩
  rw [cells_five h.row.1 hk a b c d e]
  refine he _ (fun b hb => ?_)
  rw [heap_setCell_other _ _ _ _ hb, heap_setCell_other _ _ _ _ hb, heap_setCell_other _ _ _ _ hb, heap_setCell_other _ _ _ _ hb]
  exact heap_setCell_other _ _ _ _ hb
theorem cells_one {m k : Nat} {vs : List Value} (h : vs.length = m * 1) (hk : k < m) (a : Value) : cellsJ 1 (vs.set (k * 1 + 0) a) k = [a] := by
  have hl := cellsJ_len (n := 1) h k hk
  rw [cellsJ_set 1 _ k 0 k a (by omega), if_pos rfl]
  match cellsJ 1 vs k, hl with
  | [_], _ => rfl
/-- one element of one cell is stored -/
theorem TSc.store1 {T : TypeId} {m k : Nat} {Es : Nat → Thing} {W : World} {p cap : Nat} {vs : List Value} {Bs : Nat → Nat → Prop} {B : Nat → Prop} (g : ∀ j, GoodT (Es j)) (h : TSc T 1 m k Es W p cap vs Bs) (hk : k < m) (a : Value)
    (he : ∀ W' : World, (∀ b, b ≠ p → W'.heap[b]? = W.heap[b]?) → Es k W' B [a]) (hp : ¬ B p) (hd : ∀ j, j < k → ∀ b, Bs j b → B b → False) :
    ∃ vs', TSc T 1 m (k + 1) Es (W.setCell ⟨p, k, none⟩ a) p cap vs' (fun q => if q = k then B else Bs q) := by
  have h1 := h.fill g 0 (by omega) a
  rw [Nat.mul_one, Nat.add_zero] at h1
  refine ⟨_, h1.more (B := B) ?_ hp hd⟩
  have := cells_one h.row.1 hk a
  rw [Nat.mul_one, Nat.add_zero] at this
  rw [this]
  exact he _ (fun b hb => heap_setCell_other _ _ _ _ hb)
/-- rows of rows out of things -/
theorem Ows.owS {zss : List (List Int)} {m : Nat} {W : World} {lo hi : Nat} {v : Value} (hz : zss.length = m) (h : Ows (TS 23 1 m (fun k => TI (zss.getD k []))) W lo hi [v]) : OwS zss W lo hi v := by
  obtain ⟨hh, B, hT, hB⟩ := h
  rcases hT with ⟨e, e1, _⟩ | ⟨p, cap, vs, Bs, e, hc, hb⟩
  · simp at e1
    exact ⟨hh, .inl ⟨e1, List.length_eq_zero_iff.1 (hz.trans e)⟩⟩
  simp at e
  subst e
  have hp := hB p ((hb p).2 (.inl rfl))
  have hcap : m ≤ cap := by
    rcases hc.row.2 with ⟨hn, _⟩ | ⟨p', cap', cur, e', _, _, h3, _⟩
    · cases hn
    · simp only [Value.slice.injEq] at e'
      omega
  have hvl : vs.length = m := by have := hc.row.1; omega
  have hcell : ∀ j, j < m → ∃ x, vs[j]? = some x ∧ TI (zss.getD j []) W (Bs j) [x] := fun j hj => by
    have h1 := hc.el j hj
    have h2 := cellsJ_len (n := 1) hc.row.1 j hj
    have h3 := cellsJ_get 1 vs j 0 (by omega)
    rw [Nat.mul_one, Nat.add_zero] at h3
    match hcs : cellsJ 1 vs j, h2 with
    | [x], _ =>
      rw [hcs] at h1 h3
      exact ⟨x, h3.symm, h1⟩
  refine ⟨hh, .inr ⟨p, cap, vs, by rw [hz], by omega, hp.1, hp.2, ?_, by omega, fun j hj => ?_, fun i j x y b hij hx hy hbx hby => ?_⟩⟩
  · rw [hz]
    refine ⟨hc.row.1, ?_⟩
    rcases hc.row.2 with ⟨hn, _⟩ | ⟨p', cap', cur, e', _, rest⟩
    · cases hn
    · simp only [Value.slice.injEq, Option.some.injEq, Addr.mk.injEq, true_and, and_true] at e'
      obtain ⟨rfl, rfl⟩ := e'
      exact .inr ⟨p, cap, cur, rfl, hp.1, rest⟩
  · rw [hz] at hj
    obtain ⟨x, e, hE⟩ := hcell j hj
    obtain ⟨a, c, rfl⟩ := hE.slice
    have hbl := hE.blocks
    have ho := hE.own (lo := lo) (fun b hb' => (hB b ((hb b).2 (.inr ⟨j, hj, hb'⟩))).1)
    refine ⟨a, c, e, ?_, ⟨ho, hh, fun b hb' => (hB b ((hb b).2 (.inr ⟨j, hj, (hbl b).2 hb'⟩))).2⟩, fun b hb' e2 => ?_⟩
    · obtain ⟨a2, c2, e2, _, f2, _⟩ := hE
      simp at e2
      rw [e2.2]
      exact f2
    · subst e2
      exact hc.np j hj ((hbl b).2 hb')
  · have hi' : i < m := by have := (List.getElem?_eq_some_iff.1 hx).1; omega
    have hj' : j < m := by have := (List.getElem?_eq_some_iff.1 hy).1; omega
    obtain ⟨x2, e, hE⟩ := hcell i hi'
    obtain ⟨y2, e2, hE2⟩ := hcell j hj'
    rw [e] at hx
    rw [e2] at hy
    obtain rfl := Option.some.inj hx
    obtain rfl := Option.some.inj hy
    exact hc.dis i j hi' hj' (by omega) b ((hE.blocks b).2 hbx) ((hE2.blocks b).2 hby)
theorem with_any (P N R : Int) (a : Bool) (x y : Option Addr) (n c n' c' : Nat) (w : World) :
    Calls Tryz.prog 164 #[.agg #[.int .i64 P, .int .i64 N, .int .i64 R, .bool a, .slice x n c], .slice y n' c'] w fun e w' => e = .returned (.agg #[.int .i64 P, .int .i64 N, .int .i64 R, .bool a, .slice y n' c']) ∧ Old w w' := by
  go_enter Tryz.func164, Tryz.ntmps164
  go_wp2_with fail
  refine bodyPost_ret (v := .agg #[.int .i64 P, .int .i64 N, .int .i64 R, .bool a, .slice y n' c']) (by simp [results, Tryz.results164, go_sem]) rfl ⟨rfl, ?_⟩
  exact ((Old.refl w).alloc _).alloc _
set_option maxRecDepth 100000 in
set_option maxHeartbeats 4000000 in
theorem numbersOf_any (N : Int) (a : Bool) (ps : List Int) (Rf : Nat → Int) (zss : List (List Int)) (m lo : Nat) (v : Value) (w : World) (hm : 1 ≤ m ∧ m ≤ 1000) (hz : zss.length = m) (h : Ows (TS 153 5 m (elR N a ps Rf zss)) w lo w.heap.size [v]) (hlo : lo ≤ w.heap.size) :
    Calls Tryz.prog 111 #[v] w fun e w' => e = .returned (.slice (some ⟨w.heap.size, 0, none⟩) m m) ∧ Old w w' ∧ OwS zss w' lo w'.heap.size (.slice (some ⟨w.heap.size, 0, none⟩) m m) := by
  obtain ⟨j0, ji, jz0, jz1, jz2⟩ := info_parts Tryz.infoInts
  obtain ⟨_, B, hT, hB⟩ := h
  rcases hT with ⟨e, _⟩ | ⟨p, cap, vs0, Bs, e, hc, hb⟩
  · omega
  simp at e
  subst e
  have HC : Hid (∀ k, k < m → ∃ x y c, (w.cell? ⟨p, k * 5, none⟩ = some (.int .i64 (ps.getD k 0)) ∧ w.cell? ⟨p, k * 5 + 1, none⟩ = some (.int .i64 N) ∧ w.cell? ⟨p, k * 5 + 2, none⟩ = some (.int .i64 (Rf k)) ∧ w.cell? ⟨p, k * 5 + 3, none⟩ = some (.bool a) ∧ w.cell? ⟨p, k * 5 + 4, none⟩ = some x) ∧ x = .slice y (zss.getD k []).length c ∧ TI (zss.getD k []) w (Bs k) [x]) := fun k hk => by
    obtain ⟨x, e, hE⟩ := hc.el k hk
    obtain ⟨y, c, ex⟩ := hE.slice
    have c0 := hc.cell k 0 hk (by omega)
    have c1 := hc.cell k 1 hk (by omega)
    have c2 := hc.cell k 2 hk (by omega)
    have c3 := hc.cell k 3 hk (by omega)
    have c4 := hc.cell k 4 hk (by omega)
    rw [e] at c0 c1 c2 c3 c4
    exact ⟨x, y, c, ⟨c0, c1, c2, c3, c4⟩, ex, hE⟩
  have hpl : p < w.heap.size := ownsRow_lt hc.row
  have HBL : Hid (∀ k b, k < m → Bs k b → lo ≤ b ∧ b < w.heap.size) := fun k b hk h => hB b ((hb b).2 (.inr ⟨k, hk, h⟩))
  have HDI : Hid (∀ i j, i < m → j < m → i ≠ j → ∀ b, Bs i b → Bs j b → False) := hc.dis
  have HFI : Hid (∀ w' v, Ows (TS 23 1 m (fun k => TI (zss.getD k []))) w' lo w'.heap.size [v] → OwS zss w' lo w'.heap.size v) := fun w' v h => h.owS hz
  clear hc hb hB hz
  go_enter Tryz.func111, Tryz.ntmps111
  go_wp2_with (at_make; refine wpList_make_full _ rfl _ _ 48 rfl 0 23 j0 (.slice none 0 0) 1 Tryz.underlying48 ji jz0 jz1 .i64 .i64 _ _ m rfl rfl rfl rfl (by rw [jz2]; omega) (by unfold maxLen; omega) (Nat.zero_le _) ?_; intro w1 hown hgrow)
  have HO : Hid (TSc 23 1 m 0 (fun k => TI (zss.getD k [])) w1 w.heap.size m _ (fun _ _ => False)) := TSc.start hown
  have HG : Hid (Old w w1) := Below.grown (Below.refl _ _) hgrow (Nat.le_refl _) (fun _ h => by cases h)
  clear hown hgrow
  go_loopw [11, 4, 5] (fun i _ _ W => ∃ (k : Nat) (vs : List Value) (Ds : Nat → Nat → Prop), k ≤ m ∧ i = .int .i64 k ∧ Hid (TSc 23 1 m k (fun k => TI (zss.getD k [])) W w.heap.size m vs Ds) ∧ Hid (∀ j, j < k → Ds j = Bs j) ∧ Hid (Old w W)) (fun i _ _ _ => m - (intOf i).toNat)
  case atStart => exact ⟨0, _, _, by omega, rfl, HO, (fun j hj => by omega), HG⟩
  case round =>
    obtain ⟨k, vs, Ds, hk, rfl, H1, HD, HG1⟩ := hrel
    clear HO HG
    by_cases hlt : k < m
    · have d1 : decide ((k : Int) < (m : Int)) = true := by simp; omega
      obtain ⟨x, y, c, ⟨c0, c1, c2, c3, c4⟩, rfl, hE⟩ := HC.out k hlt
      have q0 := (HG1.out.cell (p := ⟨p, k * 5, none⟩) hpl).trans c0
      have q1 := (HG1.out.cell (p := ⟨p, k * 5 + 1, none⟩) hpl).trans c1
      have q2 := (HG1.out.cell (p := ⟨p, k * 5 + 2, none⟩) hpl).trans c2
      have q3 := (HG1.out.cell (p := ⟨p, k * 5 + 3, none⟩) hpl).trans c3
      have q4 := (HG1.out.cell (p := ⟨p, k * 5 + 4, none⟩) hpl).trans c4
      have hsr : w.heap.size < wr.heap.size := ownsRow_lt H1.out.row
      have hE1 : TI (zss.getD k []) wr (Bs k) [.slice y (zss.getD k []).length c] := (good_TI _).far hE (fun b hb => HG1.out.block b (HBL.out k b hlt hb).2)
      have hst : ∃ vs', TSc 23 1 m (k + 1) (fun k => TI (zss.getD k [])) (wr.setCell ⟨w.heap.size, k, none⟩ (.slice y (zss.getD k []).length c)) w.heap.size m vs' (fun q => if q = k then Bs k else Ds q) :=
        H1.out.store1 (fun j => good_TI _) hlt _ (B := Bs k) (fun W' hW' => (good_TI _).far hE1 (fun b hb => hW' b (by have := (HBL.out k b hlt hb).2; omega))) (fun hb => by have := (HBL.out k _ hlt hb).2; omega) (fun j hj b h1 h2 => by
          rw [HD.out j hj] at h1
          exact HDI.out j k (by omega) hlt (by omega) b h1 h2)
      obtain ⟨vs', hst⟩ := hst
      have HST : Hid (∀ o : Obj, TSc 23 1 m (k + 1) (fun k => TI (zss.getD k [])) ((wr.setCell ⟨w.heap.size, k, none⟩ (.slice y (zss.getD k []).length c)).alloc o) w.heap.size m vs' (fun q => if q = k then Bs k else Ds q)) := fun o => hst.old (fun j => by
        by_cases e : j = k
        · exact good_TI _
        · exact good_TI _) ((Old.refl _).alloc o)
      have HND : Hid (∀ j, j < k + 1 → (fun q => if q = k then Bs k else Ds q) j = Bs j) := fun j hj => by
        by_cases e : j = k
        · simp only [e, if_true]
        · simp only [e, if_false]
          exact HD.out j (by omega)
      obtain ⟨z, hz⟩ : ∃ z, wr.cell? ⟨w.heap.size, k, none⟩ = some z := by
        have h5 := H1.out.cell k 0 hlt (by omega)
        rw [Nat.mul_one, Nat.add_zero] at h5
        have h6 := cellsJ_len H1.out.row.1 k hlt
        exact ⟨_, h5.trans (List.getElem?_eq_getElem (by omega))⟩
      have hfz : wr.frozen? ⟨w.heap.size, k, none⟩ = false := H1.out.frozen _
      clear c0 c1 c2 c3 c4 hE hE1 hst H1 HD
      generalize ps.getD k 0 = P at *
      generalize Rf k = R at *
      obtain ⟨n, hn⟩ : ∃ n, (zss.getD k []).length = n := ⟨_, rfl⟩
      rw [hn] at HST q4
      clear hn
      have HN : Hid (TSc 23 1 m (k + 1) (fun k => TI (zss.getD k [])) ((wr.setCell ⟨w.heap.size, k, none⟩ (.slice y n c)).alloc (.cells #[.int .i64 P, .int .i64 N, .int .i64 R, .bool a, .slice y n c] 153)) w.heap.size m vs' (fun q => if q = k then Bs k else Ds q)) := HST.out _
      have HG2 : Hid (Old w ((wr.setCell ⟨w.heap.size, k, none⟩ (.slice y n c)).alloc (.cells #[.int .i64 P, .int .i64 N, .int .i64 R, .bool a, .slice y n c] 153))) := (HG1.out.own (p := ⟨w.heap.size, k, none⟩) (Nat.le_refl _) _).alloc _
      clear HST
      go_wp2_with fail
      exact ⟨⟨k + 1, vs', _, by omega, by go_num, HN, HND, HG2⟩, by simp [intOf]; omega⟩
    · have d1 : decide ((k : Int) < (m : Int)) = false := by simp; omega
      obtain rfl : k = m := by omega
      have HE : Hid (OwS zss wr lo wr.heap.size (.slice (some ⟨w.heap.size, 0, none⟩) k k)) := HFI.out _ _ (H1.out.done (fun j => good_TI _) hlo (fun j b hj hb => by rw [HD.out j hj] at hb; exact (HBL.out j b hj hb).1))
      go_wp2_with fail
      go_ret
      exact ⟨rfl, HG1.out, HE.out⟩
end Go.Proofs.YtfgooclnohnkmaaGreatDoor
/- Proved: the program's changedRows with madeBack. -/
namespace Go.Proofs.YtfgooclnohnkmaaGreatDoor
open Go.ChangeShapes Go.WideShapes Go.ChangeAt Go.RowKit
set_option linter.unusedVariables false
set_option linter.unusedSimpArgs false
set_option maxRecDepth 100000 in
set_option maxHeartbeats 8000000 in
theorem changed_back (N : Int) (a : Bool) (ps : List Int) (Rf : Nat → Int) (us : Nat → Value) (v : Value) (m : Nat) (w : World) (hr : RdR w v m N a ps Rf us) (hus : ∀ k, k < m → ∃ x n c, us k = .slice x n c) (hm : 1 ≤ m ∧ m ≤ 1000) (zss : List (List Int))
    (cj : ∀ k, k < m → ∀ W, Old w W → Calls Tryz.prog 157 #[.agg #[.int .i64 (ps.getD k 0), .int .i64 N, .int .i64 (Rf k), .bool a, us k]] W fun e w' => ∃ v', e = .returned v' ∧ Old W w' ∧ Own w' W.heap.size v' (zss.getD k [])) :
    Calls Tryz.prog 188 #[v, .func (.func 157) #[] #[]] w fun e w' => e = .returned (.slice (some ⟨w.heap.size, 0, none⟩) m m) ∧ Old w w' ∧ Ows (TS 153 5 m (elR N a ps Rf zss)) w' w.heap.size w'.heap.size [.slice (some ⟨w.heap.size, 0, none⟩) m m] := by
  obtain ⟨i0, hi, hz0, hz1, hz2⟩ := info_parts Tryz.infoRingRow
  obtain ⟨b, cap, rfl, hb, hc⟩ := hr
  have HC : Hid (∀ k, k < m → w.cell? ⟨b, k * 5, none⟩ = some (.int .i64 (ps.getD k 0)) ∧ w.cell? ⟨b, k * 5 + 1, none⟩ = some (.int .i64 N) ∧ w.cell? ⟨b, k * 5 + 2, none⟩ = some (.int .i64 (Rf k)) ∧ w.cell? ⟨b, k * 5 + 3, none⟩ = some (.bool a) ∧ w.cell? ⟨b, k * 5 + 4, none⟩ = some (us k)) := hc
  have HUS : Hid (∀ k, k < m → ∃ x n c, us k = .slice x n c) := hus
  have HCJ : Hid (∀ k, k < m → ∀ W, Old w W → Calls Tryz.prog 157 #[.agg #[.int .i64 (ps.getD k 0), .int .i64 N, .int .i64 (Rf k), .bool a, us k]] W fun e w' => ∃ v', e = .returned v' ∧ Old W w' ∧ Own w' W.heap.size v' (zss.getD k [])) := cj
  have HEL : Hid (∀ k, elR N a ps Rf zss k = TR (ps.getD k 0) N (Rf k) a (TI (zss.getD k []))) := fun k => rfl
  have HGD : Hid (∀ k, GoodT (elR N a ps Rf zss k)) := good_elR N a ps Rf zss
  generalize elR N a ps Rf zss = Es at *
  clear hc hus cj
  go_enter Tryz.func188, Tryz.ntmps188
  go_wp2_with (at_make; refine wpList_make_full _ rfl _ _ 139 rfl 0 153 i0 (.agg #[.int .i64 0, .int .i64 0, .int .i64 0, .bool false, .slice none 0 0]) 5 Tryz.underlying139 hi hz0 hz1 .i64 .i64 _ _ m rfl rfl rfl rfl (by rw [hz2]; omega) (by unfold maxLen; omega) (Nat.zero_le _) ?_; intro w1 hown hgrow)
  have HO : Hid (TSc 153 5 m 0 Es w1 w.heap.size m _ (fun _ _ => False)) := TSc.start hown
  have HG : Hid (Old w w1) := Below.grown (Below.refl _ _) hgrow (Nat.le_refl _) (fun _ h => by cases h)
  clear hown hgrow
  go_loopw [13, 6, 7] (fun i _ _ W => ∃ (k : Nat) (vs : List Value) (Bs : Nat → Nat → Prop), k ≤ m ∧ i = .int .i64 k ∧ Hid (TSc 153 5 m k Es W w.heap.size m vs Bs) ∧ Hid (∀ j b, j < k → Bs j b → w.heap.size < b) ∧ Hid (Old w W)) (fun i _ _ _ => m - (intOf i).toNat)
  case atStart => exact ⟨0, _, _, by omega, rfl, HO, (fun j b hj => by omega), HG⟩
  case round =>
    obtain ⟨k, vs, Bs, hk, rfl, H1, HB, HG1⟩ := hrel
    clear HO HG
    by_cases hlt : k < m
    · have d1 : decide ((k : Int) < (m : Int)) = true := by simp; omega
      have ilt : (k : Int) < (m : Int) := by omega
      obtain ⟨c0, c1, c2, c3, c4⟩ := HC.out k hlt
      obtain ⟨xu, nu, cu, eu⟩ := HUS.out k hlt
      have cj := HCJ.out k hlt
      rw [eu] at c4 cj
      have q0 := (HG1.out.cell (p := ⟨b, k * 5, none⟩) hb).trans c0
      have q1 := (HG1.out.cell (p := ⟨b, k * 5 + 1, none⟩) hb).trans c1
      have q2 := (HG1.out.cell (p := ⟨b, k * 5 + 2, none⟩) hb).trans c2
      have q3 := (HG1.out.cell (p := ⟨b, k * 5 + 3, none⟩) hb).trans c3
      have q4 := (HG1.out.cell (p := ⟨b, k * 5 + 4, none⟩) hb).trans c4
      have hsr : w.heap.size < wr.heap.size := ownsRow_lt H1.out.row
      have HEK : Hid (Es k = TR (ps.getD k 0) N (Rf k) a (TI (zss.getD k []))) := HEL.out k
      clear c0 c1 c2 c3 c4 eu
      generalize ps.getD k 0 = P at *
      generalize Rf k = R at *
      generalize zss.getD k [] = zs at *
      have HAS5 : Hid (∀ W', Old (wr.alloc (.cells #[.int .i64 P, .int .i64 N, .int .i64 R, .bool a, .slice xu nu cu] 153)) W' → (W'.cell? ⟨wr.heap.size, 0, none⟩ = some (.int .i64 P) ∧ W'.cell? ⟨wr.heap.size, 1, none⟩ = some (.int .i64 N) ∧ W'.cell? ⟨wr.heap.size, 2, none⟩ = some (.int .i64 R) ∧ W'.cell? ⟨wr.heap.size, 3, none⟩ = some (.bool a) ∧ W'.cell? ⟨wr.heap.size, 4, none⟩ = some (.slice xu nu cu))) := fun W' q => by
        have q' := Old.trans ((Old.refl wr).alloc _) q
        exact ⟨(q.cell (p := ⟨wr.heap.size, 0, none⟩) (by simp)).trans (cell_at _ _ _ _ _ rfl), (q.cell (p := ⟨wr.heap.size, 1, none⟩) (by simp)).trans (cell_at _ _ _ _ _ rfl), (q.cell (p := ⟨wr.heap.size, 2, none⟩) (by simp)).trans (cell_at _ _ _ _ _ rfl), (q.cell (p := ⟨wr.heap.size, 3, none⟩) (by simp)).trans (cell_at _ _ _ _ _ rfl), (q.cell (p := ⟨wr.heap.size, 4, none⟩) (by simp)).trans (cell_at _ _ _ _ _ rfl)⟩
      have HAS6 : Hid (∀ W' y0 y1 y2 y3 y4, Old (wr.alloc (.cells #[.int .i64 P, .int .i64 N, .int .i64 R, .bool a, .slice xu nu cu] 153)) W' → ((fun W' => W'.cell? ⟨wr.heap.size, 0, none⟩ = some (.int .i64 P) ∧ W'.cell? ⟨wr.heap.size, 1, none⟩ = some (.int .i64 N) ∧ W'.cell? ⟨wr.heap.size, 2, none⟩ = some (.int .i64 R) ∧ W'.cell? ⟨wr.heap.size, 3, none⟩ = some (.bool a) ∧ W'.cell? ⟨wr.heap.size, 4, none⟩ = some (.slice xu nu cu)) (((((W'.setCell ⟨w.heap.size, k * 5, none⟩ y0).setCell ⟨w.heap.size, k * 5 + 1, none⟩ y1).setCell ⟨w.heap.size, k * 5 + 2, none⟩ y2).setCell ⟨w.heap.size, k * 5 + 3, none⟩ y3).setCell ⟨w.heap.size, k * 5 + 4, none⟩ y4))) := fun W' y0 y1 y2 y3 y4 q => by
        obtain ⟨s0, s1, s2, s3, s4⟩ := HAS5.out W' q
        have key : ∀ (bb j : Nat) (z : Value), bb ≠ w.heap.size → W'.cell? ⟨bb, j, none⟩ = some z → (((((W'.setCell ⟨w.heap.size, k * 5, none⟩ y0).setCell ⟨w.heap.size, k * 5 + 1, none⟩ y1).setCell ⟨w.heap.size, k * 5 + 2, none⟩ y2).setCell ⟨w.heap.size, k * 5 + 3, none⟩ y3).setCell ⟨w.heap.size, k * 5 + 4, none⟩ y4).cell? ⟨bb, j, none⟩ = some z := fun bb j z hb hz => by
          rw [cellO _ _ _ _ hb, cellO _ _ _ _ hb, cellO _ _ _ _ hb, cellO _ _ _ _ hb, cellO _ _ _ _ hb]
          exact hz
        exact ⟨key _ _ _ (by omega) s0, key _ _ _ (by omega) s1, key _ _ _ (by omega) s2, key _ _ _ (by omega) s3, key _ _ _ (by omega) s4⟩
      have HGA : Hid (Old w (wr.alloc (.cells #[.int .i64 P, .int .i64 N, .int .i64 R, .bool a, .slice xu nu cu] 153))) := HG1.out.alloc _
      have HX : Hid (∀ w6 y n c Bz, Old (wr.alloc (.cells #[.int .i64 P, .int .i64 N, .int .i64 R, .bool a, .slice xu nu cu] 153)) w6 → TI zs w6 Bz [.slice y n c] → (∀ b, Bz b → wr.heap.size + 1 ≤ b) → (∃ vs', TSc 153 5 m (k + 1) Es (((((w6.setCell ⟨w.heap.size, k * 5, none⟩ (.int .i64 P)).setCell ⟨w.heap.size, k * 5 + 1, none⟩ (.int .i64 N)).setCell ⟨w.heap.size, k * 5 + 2, none⟩ (.int .i64 R)).setCell ⟨w.heap.size, k * 5 + 3, none⟩ (.bool a)).setCell ⟨w.heap.size, k * 5 + 4, none⟩ (.slice y n c)) w.heap.size m vs' (fun q => if q = k then Bz else Bs q)) ∧ (∀ j b, j < k + 1 → (fun q => if q = k then Bz else Bs q) j b → w.heap.size < b) ∧ Old w (((((w6.setCell ⟨w.heap.size, k * 5, none⟩ (.int .i64 P)).setCell ⟨w.heap.size, k * 5 + 1, none⟩ (.int .i64 N)).setCell ⟨w.heap.size, k * 5 + 2, none⟩ (.int .i64 R)).setCell ⟨w.heap.size, k * 5 + 3, none⟩ (.bool a)).setCell ⟨w.heap.size, k * 5 + 4, none⟩ (.slice y n c))) := fun w6 y n c Bz g6 hTI hlo => by
        have g7 := Old.trans ((Old.refl wr).alloc _) g6
        refine ⟨(H1.out.old HGD.out g7).store5 HGD.out hlt _ _ _ _ _ (B := Bz) (fun W' hW' => ?_) (fun hb => by have := hlo _ hb; omega) (fun j hj b h1 h2 => ?_), fun j b hj hb => ?_, ?_⟩
        · rw [HEK.out]
          exact ⟨_, rfl, (good_TI zs).far hTI (fun b hb => hW' b (by have := hlo b hb; omega))⟩
        · have h4 := H1.out.lt HGD.out j b hj h1
          have := hlo b h2
          omega
        · by_cases e : j = k
          · simp only [e, if_true] at hb
            have := hlo b hb
            omega
          · simp only [e, if_false] at hb
            exact HB.out j b (by omega) hb
        · exact (((((Old.trans HG1.out g7).own (p := ⟨w.heap.size, k * 5, none⟩) (Nat.le_refl _) _).own (p := ⟨w.heap.size, k * 5 + 1, none⟩) (Nat.le_refl _) _).own (p := ⟨w.heap.size, k * 5 + 2, none⟩) (Nat.le_refl _) _).own (p := ⟨w.heap.size, k * 5 + 3, none⟩) (Nat.le_refl _) _).own (p := ⟨w.heap.size, k * 5 + 4, none⟩) (Nat.le_refl _) _
      have HCE : Hid (∀ w6, Old (wr.alloc (.cells #[.int .i64 P, .int .i64 N, .int .i64 R, .bool a, .slice xu nu cu] 153)) w6 → ∀ i, i < 5 → (∃ z, w6.cell? ⟨w.heap.size, k * 5 + i, none⟩ = some z) ∧ w6.frozen? ⟨w.heap.size, k * 5 + i, none⟩ = false) := fun w6 g6 i hi5 => by
        have H2 := H1.out.old HGD.out (Old.trans ((Old.refl wr).alloc _) g6)
        have h5 := H2.cell k i hlt hi5
        have h6 := cellsJ_len H2.row.1 k hlt
        exact ⟨⟨_, h5.trans (List.getElem?_eq_getElem (by omega))⟩, H2.frozen _⟩
      clear H1 HB HEK
      go_wp2_with fail
      go_region_held3 (fun W' => W'.cell? ⟨wr.heap.size, 0, none⟩ = some (.int .i64 P) ∧ W'.cell? ⟨wr.heap.size, 1, none⟩ = some (.int .i64 N) ∧ W'.cell? ⟨wr.heap.size, 2, none⟩ = some (.int .i64 R) ∧ W'.cell? ⟨wr.heap.size, 3, none⟩ = some (.bool a) ∧ W'.cell? ⟨wr.heap.size, 4, none⟩ = some (.slice xu nu cu)) (first | with_reducible exact HAS5.out _ Q6.out | with_reducible exact HAS5.out _ Q5.out | with_reducible exact HAS5.out _ (Below.drew (Old.refl _)) | with_reducible exact HAS6.out _ _ _ _ _ _ Q6.out | with_reducible exact HAS5.out _ (Old.refl _)) (first
        | (go_at_call 157; refine (cj _ (Below.drew HGA.out)).mono ?_; rintro e w5 ⟨v5, rfl, q5, o5⟩; obtain ⟨x5, c5, rfl⟩ := (Own.row o5).slice; have Q5 : Hid (Old (wr.alloc (.cells #[.int .i64 P, .int .i64 N, .int .i64 R, .bool a, .slice xu nu cu] 153)) w5) := Old.trans (Below.drew (Old.refl _)) q5; have O5 : Hid (Own w5 (wr.heap.size + 1) (.slice x5 zs.length c5) zs) := (by simp at o5; exact o5); clear q5 o5)
        | (go_at_call 164; refine (with_any _ _ _ _ _ _ _ _ _ _ _).mono ?_; rintro e w6 ⟨rfl, q6⟩; have Q6 : Hid (Old (wr.alloc (.cells #[.int .i64 P, .int .i64 N, .int .i64 R, .bool a, .slice xu nu cu] 153)) w6) := Old.trans Q5.out q6; have O6 : Hid (Own w6 (wr.heap.size + 1) (.slice x5 zs.length c5) zs) := O5.out.old q6; clear q6; obtain ⟨⟨z0, hz0⟩, hf0⟩ := HCE.out w6 Q6.out 0 (by omega); obtain ⟨⟨z1, hz1⟩, hf1⟩ := HCE.out w6 Q6.out 1 (by omega); obtain ⟨⟨z2, hz2⟩, hf2⟩ := HCE.out w6 Q6.out 2 (by omega); obtain ⟨⟨z3, hz3⟩, hf3⟩ := HCE.out w6 Q6.out 3 (by omega); obtain ⟨⟨z4, hz4⟩, hf4⟩ := HCE.out w6 Q6.out 4 (by omega); rw [Nat.add_zero] at hz0 hf0)
        | fail)
      all_goals
        obtain ⟨Bz, hTI, hlo⟩ := TI.of O6.out
        obtain ⟨⟨vs', n1⟩, n2, n3⟩ := HX.out w6 x5 zs.length c5 Bz Q6.out hTI hlo
        have N1 : Hid (TSc 153 5 m (k + 1) Es (((((w6.setCell ⟨w.heap.size, k * 5, none⟩ (.int .i64 P)).setCell ⟨w.heap.size, k * 5 + 1, none⟩ (.int .i64 N)).setCell ⟨w.heap.size, k * 5 + 2, none⟩ (.int .i64 R)).setCell ⟨w.heap.size, k * 5 + 3, none⟩ (.bool a)).setCell ⟨w.heap.size, k * 5 + 4, none⟩ (.slice x5 zs.length c5)) w.heap.size m vs' (fun q => if q = k then Bz else Bs q)) := n1
        have N2 : Hid (∀ j b, j < k + 1 → (fun q => if q = k then Bz else Bs q) j b → w.heap.size < b) := n2
        have N3 : Hid (Old w (((((w6.setCell ⟨w.heap.size, k * 5, none⟩ (.int .i64 P)).setCell ⟨w.heap.size, k * 5 + 1, none⟩ (.int .i64 N)).setCell ⟨w.heap.size, k * 5 + 2, none⟩ (.int .i64 R)).setCell ⟨w.heap.size, k * 5 + 3, none⟩ (.bool a)).setCell ⟨w.heap.size, k * 5 + 4, none⟩ (.slice x5 zs.length c5))) := n3
        clear n1 n2 n3 hTI hlo HX
        go_wp2_with fail
        exact ⟨⟨k + 1, vs', _, by omega, by go_num, N1, N2, N3⟩, by simp [intOf]; omega⟩
    · have d1 : decide ((k : Int) < (m : Int)) = false := by simp; omega
      obtain rfl : k = m := by omega
      have HE : Hid (Ows (TS 153 5 k Es) wr w.heap.size wr.heap.size [.slice (some ⟨w.heap.size, 0, none⟩) k k]) := H1.out.done HGD.out (Nat.le_refl _) (fun j b hj hb => Nat.le_of_lt (HB.out j b hj hb))
      go_wp2_with fail
      go_ret
      exact ⟨rfl, HG1.out, HE.out⟩
end Go.Proofs.YtfgooclnohnkmaaGreatDoor
