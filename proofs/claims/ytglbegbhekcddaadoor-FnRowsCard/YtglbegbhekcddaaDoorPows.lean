/- Proved: the powers of a root, once round, in an array of 32 numbers. -/
import Derived.Test.YtglbegbhekcddaaDoorRw16
import Derived.Deep.WholeRow
import Derived.Laws.ResultCell
namespace Go.Proofs.YtglbegbhekcddaaDoor
open Go.ChangeShapes Go.WideShapes Go.ChangeAt Go.RowKit
set_option linter.unusedVariables false
set_option linter.unusedSimpArgs false
def pwA (ls : List Nat) : Array Value := (ls.map (fun n : Nat => Value.int .i64 (n : Int))).toArray
theorem pwA_size {ls : List Nat} (h : ls.length = 32) : (pwA ls).size = 32 := by simp [pwA, h]
theorem pwA_at {ls : List Nat} (h : ls.length = 32) {j : Nat} (hj : j < 32) : (pwA ls)[j]? = some (.int .i64 ((ls.getD j 0 : Nat) : Int)) := by
  simp [pwA, h, hj, List.getD]
theorem pwA_set {ls : List Nat} (h : ls.length = 32) {j : Nat} (hj : j < 32) (y : Nat) : (pwA ls).setIfInBounds j (.int .i64 (y : Int)) = pwA (ls.set j y) := by
  simp only [pwA, List.setIfInBounds_toArray]
  congr 1
  simp [List.map_set]
theorem pwA_one (ls : List Nat) : (pwA ls).all (·.oneCell') = true := by
  simp [pwA, Value.oneCell']
theorem infoPw : (Tryd.prog.info? 78).map (·.size) = some 32 := by kernel_rfl
structure Pw (w : World) (g : Nat) (ls : List Nat) : Prop where
  blk : w.heap[g]? = some (.cells (pwA ls) 78 (0, 0))
  len : ls.length = 32
theorem Pw.lt {w : World} {g : Nat} {ls : List Nat} (h : Pw w g ls) : g < w.heap.size := (Array.getElem?_eq_some_iff.1 h.blk).1
theorem Pw.at {w : World} {g : Nat} {ls : List Nat} (h : Pw w g ls) {j : Nat} (hj : j < 32) : w.cell? ⟨g, j, none⟩ = some (.int .i64 ((ls.getD j 0 : Nat) : Int)) := by
  rw [cell_of_row _ _ _ _ _ _ h.blk, pwA_at h.len hj]
theorem Pw.fro {w : World} {g : Nat} {ls : List Nat} (h : Pw w g ls) (j : Nat) : w.frozen? ⟨g, j, none⟩ = false := frozen_of_row _ _ _ _ _ h.blk
theorem Pw.old {w w' : World} {g : Nat} {ls : List Nat} (h : Pw w g ls) (o : Old w w') : Pw w' g ls := ⟨by rw [o.block g h.lt]; exact h.blk, h.len⟩
theorem Pw.by_ {w w' : World} {g : Nat} {ls : List Nat} {ob : Option Nat} (h : Pw w g ls) (o : w.grownBy w' ob) (hne : ∀ k, ob = some k → k ≠ g) : Pw w' g ls := ⟨(o.block g h.lt (fun e => hne g e.symm rfl)).trans h.blk, h.len⟩
theorem Pw.set {w : World} {g : Nat} {ls : List Nat} (h : Pw w g ls) {j : Nat} (hj : j < 32) (y : Nat) : Pw (w.setCell ⟨g, j, none⟩ (.int .i64 (y : Int))) g (ls.set j y) :=
  ⟨by rw [heap_setCell_same w g j _ _ _ h.blk, pwA_set h.len hj y], by rw [List.length_set, h.len]⟩
theorem Pw.other {w : World} {g : Nat} {ls : List Nat} (h : Pw w g ls) (p : Addr) (hp : g ≠ p.block) (v : Value) : Pw (w.setCell p v) g ls :=
  ⟨by rw [heap_setCell_other w p g v hp]; exact h.blk, h.len⟩
theorem Pw.row {w : World} {g : Nat} {ls : List Nat} (h : Pw w g ls) (ls' : List Nat) (hl : ls'.length = 32) : Pw (w.setRow g (pwA ls')) g ls' :=
  ⟨setRow_heap w g _ _ _ _ h.blk, hl⟩
theorem Pw.new' (w : World) (ls : List Nat) (g : Nat) (hl : ls.length = 32) (hg : g = w.heap.size) : Pw (w.alloc (.cells (pwA ls) 78)) g ls := by subst hg; exact ⟨heap_alloc_new w _, hl⟩
theorem Old.rowP {a b : World} (h : Old a b) {g : Nat} (hg : a.heap.size ≤ g) (cs : Array Value) : Old a (b.setRow g cs) :=
  ⟨h.os, h.tape, h.output, by rw [setRow_size]; exact h.size, fun k hk => by rw [setRow_other b g k cs (by omega)]; exact h.block k hk⟩
section
variable {ops : Array Oper} {rest : List Oper} {a : Act} {w : World} {Q : Exit → Act → World → Prop} {ty : TypeId} {pos : String} {d : Option Tmp} {x y : Operand}
theorem load_pw {af : Array Edge} {g : Nat} {ls : List Nat} (hs : Pw w g ls) (hx : a.eval x = .pointer (some ⟨g, 0, none⟩))
    (h : wpList Tryd.prog ops Q rest (a.put d (.agg (pwA ls))) w) : wpList Tryd.prog ops Q (⟨d, .load 78 x, ty, pos, af, none⟩ :: rest) a w :=
  wpList_load_row rfl 78 x rfl g hx 78 (pwA ls) (0, 0) _ hs.blk Tryd.underlying78 rfl (by rw [pwA_size hs.len]; exact infoPw) h
theorem store_pw {af : Array Edge} {g : Nat} {ls : List Nat} (hs : Pw w g ls) (ls' : List Nat) (hl : ls'.length = 32) (hx : a.eval x = .pointer (some ⟨g, 0, none⟩)) (hy : a.eval y = .agg (pwA ls'))
    (h : wpList Tryd.prog ops Q rest (a.put d undef) (w.setRow g (pwA ls'))) : wpList Tryd.prog ops Q (⟨d, .store 78 x y, ty, pos, af, none⟩ :: rest) a w := by
  refine wpList_store_row rfl 78 x y rfl g (pwA ls') hx hy 78 (pwA ls) hs.blk (by rw [pwA_size hl]; exact infoPw) (by rw [pwA_size hs.len, pwA_size hl]) (pwA_one _) h
end
theorem ret_pw {fn : Func} {p : Tmp} (h : fn.results = #[.cell p 78]) (tmps : Array Value) (w : World) {g : Nat} {ls : List Nat} (hp : tmps.getD p undef = .pointer (some ⟨g, 0, none⟩)) (hs : Pw w g ls) :
    (results fn tmps).run Tryd.prog w = .ok (.agg (pwA ls)) w :=
  results_cell_row h tmps w g 78 (pwA ls) (0, 0) _ hp hs.blk Tryd.underlying78 rfl (by rw [pwA_size hs.len]; exact infoPw)
def pwS (P R : Nat) : Nat → List Nat
  | 0 => List.replicate 32 0
  | k + 1 => (pwS P R k).set k (R ^ k % P)
theorem pwS_len (P R : Nat) : ∀ k, (pwS P R k).length = 32
  | 0 => by simp [pwS]
  | k + 1 => by rw [pwS, List.length_set, pwS_len P R k]
theorem pwS_get (P R : Nat) : ∀ k j, j < k → k ≤ 32 → (pwS P R k).getD j 0 = R ^ j % P
  | 0, j, h, _ => by omega
  | k + 1, j, h, h2 => by
    rw [pwS]
    by_cases hj : j = k
    · subst hj
      simp [List.getD, pwS_len, show j < 32 by omega]
    · have := pwS_get P R k j (by omega) (by omega)
      simp only [List.getD] at this ⊢
      rw [List.getElem?_set_ne (by omega)]
      exact this
set_option maxRecDepth 100000 in
set_option maxHeartbeats 2000000 in
theorem impl_powers (P N R : Nat) (w : World) (hP : 2 ≤ P ∧ P ≤ 268435456) (hN : 2 ≤ N ∧ N ≤ 16) (hR : R < P) :
    Calls Tryd.prog 50 #[.agg #[.int .i64 P, .int .i64 N, .int .i64 R]] w fun e w' => e = .returned (.agg (pwA (pwS P R (2 * N)))) ∧ Old w w' := by
  have HM : Hid (∀ k, R ^ k % P * R % P = R ^ (k + 1) % P) := fun k => by rw [Nat.pow_succ, Nat.mul_mod, Nat.mod_mod, ← Nat.mul_mod]
  have HXL : Hid (∀ k, R ^ k % P < P) := fun k => Nat.mod_lt _ (by omega)
  have H1 : Hid (1 = R ^ 0 % P) := by rw [Nat.pow_zero, Nat.mod_eq_of_lt (by omega)]; rfl
  have HS : Hid (∀ k, pwS P R (k + 1) = (pwS P R k).set k (R ^ k % P)) := fun k => rfl
  have HL : Hid (∀ k, (pwS P R k).length = 32) := fun k => pwS_len P R k
  have H0 : Hid (pwS P R 0 = List.replicate 32 0) := rfl
  generalize pwS P R = F at *
  obtain ⟨E, eE⟩ : ∃ E : Nat → Nat, E = fun k => R ^ k % P := ⟨_, rfl⟩
  have HM' : Hid (∀ k, E k * R % P = E (k + 1)) := by rw [eE]; exact HM
  have HXL' : Hid (∀ k, E k < P) := by rw [eE]; exact HXL
  have H1' : Hid (1 = E 0) := by rw [eE]; exact H1
  have HS' : Hid (∀ k, F (k + 1) = (F k).set k (E k)) := by rw [eE]; exact HS
  clear HM HXL H1 HS eE
  obtain ⟨M, hM⟩ : ∃ M, M = 2 * N := ⟨_, rfl⟩
  have eM : 2 * (N : Int) = (M : Int) := by omega
  rw [← hM]
  have hM2 : M ≤ 32 := by omega
  have hpn : ¬ (P : Int) = 0 := by omega
  have hpn2 : ¬ P = 0 := by omega
  have HZ : Hid (pwA (List.replicate 32 0) = #[.int .i64 0, .int .i64 0, .int .i64 0, .int .i64 0, .int .i64 0, .int .i64 0, .int .i64 0, .int .i64 0, .int .i64 0, .int .i64 0, .int .i64 0, .int .i64 0, .int .i64 0, .int .i64 0, .int .i64 0, .int .i64 0, .int .i64 0, .int .i64 0, .int .i64 0, .int .i64 0, .int .i64 0, .int .i64 0, .int .i64 0, .int .i64 0, .int .i64 0, .int .i64 0, .int .i64 0, .int .i64 0, .int .i64 0, .int .i64 0, .int .i64 0, .int .i64 0]) := rfl
  have HPA : Hid (Pw (((w.alloc (.cells #[.int .i64 P, .int .i64 N, .int .i64 R] 40)).alloc (.cells (pwA (List.replicate 32 0)) 78)).alloc (.cells (pwA (List.replicate 32 0)) 78)) (w.heap.size + 1) (List.replicate 32 0)) := (Pw.new' (w.alloc (.cells #[.int .i64 P, .int .i64 N, .int .i64 R] 40)) (List.replicate 32 0) _ (by simp) (by simp)).old ((Old.refl _).alloc _)
  have HPB : Hid (Pw (((w.alloc (.cells #[.int .i64 P, .int .i64 N, .int .i64 R] 40)).alloc (.cells (pwA (List.replicate 32 0)) 78)).alloc (.cells (pwA (List.replicate 32 0)) 78)) (w.heap.size + 1 + 1) (F 0)) := by rw [H0.out]; exact (Pw.new' ((w.alloc (.cells #[.int .i64 P, .int .i64 N, .int .i64 R] 40)).alloc (.cells (pwA (List.replicate 32 0)) 78)) (List.replicate 32 0) _ (by simp) (by simp))
  have HRC : Hid (Rc (((w.alloc (.cells #[.int .i64 P, .int .i64 N, .int .i64 R] 40)).alloc (.cells (pwA (List.replicate 32 0)) 78)).alloc (.cells (pwA (List.replicate 32 0)) 78)) w.heap.size P N R) := (Rc.new w P N R).old (((Old.refl _).alloc _).alloc _)
  rw [HZ.out] at HPA HPB HRC
  clear hM HZ H0
  go_enter Tryd.func50, Tryd.ntmps50
  go_wp2_with fail
  go_loopw [4, 5, 9] (fun x y i W => ∃ k : Nat, k ≤ M ∧ i = .int .i64 k ∧ x = .int .i64 ((E k : Nat) : Int) ∧ Hid (Pw W (w.heap.size + 1) (List.replicate 32 0)) ∧ Hid (Pw W (w.heap.size + 1 + 1) (F k)) ∧ Hid (Rc W w.heap.size P N R) ∧ Hid (Old w W)) (fun _ _ i _ => M - (intOf i).toNat)
  case atStart => exact ⟨0, by omega, rfl, by rw [← H1'.out]; rfl, HPA, HPB, HRC, (((Old.refl _).alloc _).alloc _).alloc _⟩
  case round =>
    obtain ⟨k, hk, rfl, rfl, PA, PB, RC, HG⟩ := hrel
    clear HPA HPB HRC
    by_cases hlt : k < M
    · have d1 : decide ((k : Int) < (M : Int)) = true := by simp; omega
      have i1 : (k : Int) < 32 := by omega
      have c1 := PB.out.at (show k < 32 by omega)
      have c2 := PB.out.fro k
      have HP2 : Hid (Pw (wr.setCell ⟨w.heap.size + 1 + 1, k, none⟩ (.int .i64 ((E k : Nat) : Int))) (w.heap.size + 1 + 1) (F (k + 1))) := by rw [HS'.out]; exact PB.out.set (by omega) _
      have HA2 : Hid (Pw (wr.setCell ⟨w.heap.size + 1 + 1, k, none⟩ (.int .i64 ((E k : Nat) : Int))) (w.heap.size + 1) (List.replicate 32 0)) := PA.out.other _ (by simp) _
      have HG2 : Hid (Old w (wr.setCell ⟨w.heap.size + 1 + 1, k, none⟩ (.int .i64 ((E k : Nat) : Int)))) := HG.out.own (by simp; omega) _
      have HR2 : Hid (Rc (wr.setCell ⟨w.heap.size + 1 + 1, k, none⟩ (.int .i64 ((E k : Nat) : Int))) w.heap.size P N R) := ⟨by have := RC.out.lt; simpa using this, by rw [World.cell?_of_block (w := wr) (heap_setCell_other wr ⟨w.heap.size + 1 + 1, k, none⟩ w.heap.size _ (by simp; omega))]; exact RC.out.c0, by rw [World.cell?_of_block (w := wr) (heap_setCell_other wr ⟨w.heap.size + 1 + 1, k, none⟩ w.heap.size _ (by simp; omega))]; exact RC.out.c1, by rw [World.cell?_of_block (w := wr) (heap_setCell_other wr ⟨w.heap.size + 1 + 1, k, none⟩ w.heap.size _ (by simp; omega))]; exact RC.out.c2⟩
      have z0 := HR2.out.c0
      have z2 := HR2.out.c2
      have hx := HXL'.out k
      have HN : Hid (E k * R % P = E (k + 1)) := HM'.out k
      generalize (F k).getD k 0 = oldv at *
      generalize E k = x at *
      have hmul := mul_lt28 x R P hx hR hP.2
      have e1 : (x : Int) * (R : Int) = ((x * R : Nat) : Int) := by simp
      have e2 : ((x * R : Nat) : Int) % (P : Int) = ((x * R % P : Nat) : Int) := by simp
      generalize x * R = s at *
      generalize s % P = q at *
      go_wp2_with fail
      exact ⟨⟨k + 1, by omega, by go_num, by rw [← HN.out, e2], HA2, HP2, HR2, HG2⟩, by simp [intOf]; omega⟩
    · have d1 : decide ((k : Int) < (M : Int)) = false := by simp; omega
      obtain rfl : k = M := by omega
      have HL2 : Hid ((F k).length = 32) := HL.out k
      go_wp2_with (first | ((with_reducible refine load_pw PB.out ?_ ?_); exact rfl; simp only [Act.put, List.setIfInBounds_toArray, List.set_cons_succ, List.set_cons_zero]) | ((with_reducible refine store_pw PA.out (F k) HL2.out ?_ ?_ ?_); exact rfl; exact rfl; simp only [Act.put]) | ((with_reducible refine bodyPost_ret (ret_pw Tryd.results50 _ _ ?_ (PA.out.row (F k) HL2.out)) ?_ ?_); exact rfl; exact rfl; exact ⟨rfl, HG.out.rowP (by omega) _⟩))
end Go.Proofs.YtglbegbhekcddaaDoor
