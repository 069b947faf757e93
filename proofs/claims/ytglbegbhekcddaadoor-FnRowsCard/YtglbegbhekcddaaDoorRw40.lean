/- Proved: several texts in one: what each proves is said ahead of it. -/
import Derived.Test.YtglbegbhekcddaaDoorDcu
import Derived.Deep.RegionHeld3
import Derived.Deep.DeepCutAuto
import Derived.Deep.CutRange
/- Proved: the contract of the draw of a whole number: some sign and at most 41 numbers are told, nothing panics, and nothing that was there changes but the cursor. -/
namespace Go.Proofs.YtglbegbhekcddaaDoor
open Go.ChangeShapes Go.WideShapes Go.ChangeAt Go.RowKit
set_option linter.unusedVariables false
set_option linter.unusedSimpArgs false
theorem bk_grownW {w w' : World} {k : Nat} {cs : Array Value} {t : TypeId} {ob : Option Nat} (h : Bk w k cs t) (g : w.grownBy w' ob) (hk : ∀ j, ob = some j → k < j) : Bk w' k cs t :=
  (g.block k h.lt (fun e => by have := hk k e.symm; omega)).trans h
theorem lit1CW (w : World) (x : Value) (t : TypeId) : ∀ j u, [x][j]? = some u → (w.alloc (.cells #[x] t)).cell? ((⟨w.heap.size, 0, none⟩ : Addr).add j) = some u := by
  intro j u h
  match j, h with
  | 0, h =>
    have : x = u := by simpa using h
    subst this
    exact cell_at w _ _ _ _ rfl
  | j + 1, h => simp at h
theorem sliceOfRowW {w : World} {base n : Nat} {v : Value} {cs : List Value} (h : w.ownsRow base 3 1 v n cs) : ∃ a c, v = .slice a n c := by
  rcases h.2 with ⟨h1, h2⟩ | ⟨g, cap, cur, h1, _⟩
  · exact ⟨none, 0, by rw [h1, h2]⟩
  · exact ⟨_, cap, h1⟩
theorem bk_put0W {w : World} {k : Nat} {x y : Value} {t : TypeId} (h : Bk w k #[x, y] t) (x' : Value) : Bk (w.setCell ⟨k, 0, none⟩ x') k #[x', y] t := (heap_setCell_same w k 0 _ _ x' h).trans rfl
theorem bk_put1W {w : World} {k : Nat} {x y : Value} {t : TypeId} (h : Bk w k #[x, y] t) (y' : Value) : Bk (w.setCell ⟨k, 1, none⟩ y') k #[x, y'] t := (heap_setCell_same w k 1 _ _ y' h).trans rfl
theorem row_far {w w' : World} {base n : Nat} {v : Value} {cs : List Value} (h : w.ownsRow base 3 1 v n cs) (hf : ∀ b, base ≤ b → b < w.heap.size → w'.heap[b]? = w.heap[b]?) : w'.ownsRow base 3 1 v n cs := by
  refine ⟨h.1, ?_⟩
  rcases h.2 with hn | ⟨p, cap, cur, rfl, hb, hgg, rest⟩
  · exact .inl hn
  · exact .inr ⟨p, cap, cur, rfl, hb, (hf p hb (Array.getElem?_eq_some_iff.1 hgg).1).trans hgg, rest⟩
theorem hid {P : Prop} (h : P) : Hid P := h
end Go.Proofs.YtglbegbhekcddaaDoor
/- Proved: contracts of the draws of two whole numbers: two signs and two lists of at most 41 numbers are told, nothing panics, and nothing that was there changes. -/
namespace Go.Proofs.YtglbegbhekcddaaDoor
open Go.ChangeShapes Go.WideShapes Go.ChangeAt Go.RowKit
set_option linter.unusedVariables false
set_option linter.unusedSimpArgs false
theorem bysW_oldX {w w' : World} {v : Value} {len : Nat} (h : BysW w v len) (g : Old w w') : BysW w' v len := by
  rcases h with h1 | ⟨b, o, cap, e, hb, hc⟩
  · exact Or.inl h1
  · refine Or.inr ⟨b, o, cap, e, Nat.lt_of_lt_of_le hb g.size, fun j hj => ?_⟩
    obtain ⟨x, hx, hxc⟩ := hc j hj
    exact ⟨x, hx, (g.cell (p := ⟨b, o + j, none⟩) hb).trans hxc⟩
def RwB (lo hi : Nat) (W : World) (v : Value) (xs : List Int) : Prop := Row W v xs ∧ ∀ b o n cap, v = .slice (some ⟨b, o, none⟩) n cap → n = 0 ∨ (lo ≤ b ∧ b < hi)
theorem RwB.old {lo hi : Nat} {W W' : World} {v : Value} {xs : List Int} (h : RwB lo hi W v xs) (g : Old W W') : RwB lo hi W' v xs := ⟨h.1.old g, h.2⟩
theorem RwB.chg {lo hi l r : Nat} {W W' : World} {v : Value} {xs : List Int} (h : RwB lo hi W v xs) (g : Chg W W' l r) (hr : r ≤ lo ∨ hi ≤ l) : RwB lo hi W' v xs := by
  refine ⟨?_, h.2⟩
  rcases h.1 with h1 | ⟨b, o, cap, e, hb, h0, hc⟩
  · exact .inl h1
  · have hne := h.2 b o _ cap e
    refine .inr ⟨b, o, cap, e, Nat.lt_of_lt_of_le hb g.size, h0, fun j hj => ?_⟩
    have hbl := g.block b hb (by omega)
    rw [← hc j hj]
    unfold World.cell?
    simp only [hbl]
theorem RwB.mono {lo hi lo' hi' : Nat} {W : World} {v : Value} {xs : List Int} (h : RwB lo hi W v xs) (hl : lo' ≤ lo) (hh : hi ≤ hi') : RwB lo' hi' W v xs := ⟨h.1, fun b o n cap e => (h.2 b o n cap e).imp id (fun h1 => by omega)⟩
theorem RwB.own {lo : Nat} {W : World} {v : Value} {xs : List Int} (h : Own W lo v xs) : RwB lo W.heap.size W v xs := ⟨Own.row h, fun b o n cap e => by
  rcases h.2 with ⟨h1, _⟩ | ⟨g, cap', cur, e1, hb, hgg, _⟩
  · rw [h1] at e; cases e
  · rw [e1] at e
    injection e with e2
    injection e2 with e3
    injection e3 with e4
    have := (Array.getElem?_eq_some_iff.1 hgg).1
    exact .inr (by omega)⟩
theorem RwB.set {lo hi : Nat} {W : World} {v : Value} {xs : List Int} (h : RwB lo hi W v xs) {p : Addr} (hp : p.block < lo ∨ hi ≤ p.block) (x : Value) : RwB lo hi (W.setCell p x) v xs :=
  h.chg (⟨rfl, rfl, rfl, by rw [World.size_setCell]; exact Nat.le_refl _, fun b _ ho => heap_setCell_other _ _ _ _ (by show b ≠ p.block; omega)⟩ : Chg W (W.setCell p x) p.block (p.block + 1)) (by omega)
end Go.Proofs.YtglbegbhekcddaaDoor
/- Proved: the contract of the draw of two bases: two lists of one to three numbers are told, nothing panics, and nothing that was there changes but the cursor. -/
namespace Go.Proofs.YtglbegbhekcddaaDoor
open Go.ChangeShapes Go.WideShapes Go.ChangeAt Go.RowKit
set_option linter.unusedVariables false
set_option linter.unusedSimpArgs false
def AlF (W : World) (g L : Nat) (al : List Int) : Prop := g < W.heap.size ∧ ∀ i, i < L → W.cell? ⟨g, i, none⟩ = some (.int .i64 (al.getD i 0))
theorem AlF.chg {W W' : World} {g L c : Nat} {al : List Int} (h : AlF W g L al) (q : Chg W W' c (c + 1)) (hc : c < g) : AlF W' g L al :=
  ⟨Nat.lt_of_lt_of_le h.1 q.size, fun i hi => by
    rw [← h.2 i hi]
    unfold World.cell?
    simp only [q.block g h.1 (Or.inr (by omega))]⟩
theorem own_cap {W : World} {base n cp : Nat} {a : Option Addr} {xs : List Int} (h : Own W base (.slice a n cp) xs) : n ≤ cp := by
  rcases h.2 with ⟨h1, h2⟩ | ⟨g, cap, cur, e, hb, hgg, rest⟩
  · injection h1 with e1 e2 e3
    omega
  · injection e with e1 e2 e3
    subst e3
    omega
set_option maxRecDepth 100000 in
set_option maxHeartbeats 8000000 in
theorem primes_c (w : World) : Calls Tryd.prog 40 #[] w fun e w' => e = .returned (.slice (some ⟨w.heap.size, 0, none⟩) 10 10) ∧ w' = w.alloc (.cells #[.int .i64 268435361, .int .i64 268435009, .int .i64 268434977, .int .i64 268434721, .int .i64 268434401, .int .i64 268433761, .int .i64 268433569, .int .i64 268433441, .int .i64 268433377, .int .i64 268433057] 3) := by
  go_enter Tryd.func40, Tryd.ntmps40
  go_wp2_with fail
  go_ret
  exact ⟨rfl, rfl⟩
set_option maxRecDepth 100000 in
set_option maxHeartbeats 8000000 in
theorem small_c (w : World) : Calls Tryd.prog 41 #[] w fun e w' => e = .returned (.slice (some ⟨w.heap.size, 0, none⟩) 9 9) ∧ w' = w.alloc (.cells #[.int .i64 97, .int .i64 193, .int .i64 257, .int .i64 353, .int .i64 449, .int .i64 577, .int .i64 641, .int .i64 673, .int .i64 769] 3) := by
  go_enter Tryd.func41, Tryd.ntmps41
  go_wp2_with fail
  go_ret
  exact ⟨rfl, rfl⟩
end Go.Proofs.YtglbegbhekcddaaDoor
