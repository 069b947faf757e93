/- Proved: several texts in one: what each proves is said ahead of it. -/
import Derived.Test.YtihjndakgncdaaaGreatDoorFd27
import Derived.Test.YtihjndakgncdaaaGreatDoorFd17
import Derived.Test.YtihjndakgncdaaaGreatDoorFd26
import Derived.Test.YtihjndakgncdaaaGreatDoorFd02
import Derived.Test.YtihjndakgncdaaaGreatDoorFd05
import Derived.Test.YtihjndakgncdaaaGreatDoorFd28
import Derived.Laws.OwnMore
/- Proved: the contract of the draw of a space: a size and one to five numbers are told, nothing panics, and nothing that was there changes but the cursor. -/
namespace Go.Proofs.YtihjndakgncdaaaGreatDoor
open Go.ChangeShapes Go.WideShapes Go.ChangeAt Go.RowKit
set_option linter.unusedVariables false
set_option linter.unusedSimpArgs false
def PrB (x : Int) : Prop := 1 ≤ x ∧ x ≤ 268435456
theorem alf_litS (W : World) (al : List Int) (L : Nat) (h : al.length = L) (t : TypeId) : AlF (W.alloc (.cells (al.map (Value.int .i64)).toArray t)) W.heap.size L al :=
  ⟨by simp, fun i hi => by rw [cell_at _ _ _ _ _ rfl]; simp [List.getD, show i < al.length by omega]⟩
theorem AlF.eq {W W' : World} {g L : Nat} {al : List Int} (h : AlF W g L al) (hs : g < W'.heap.size) (e : W'.heap[g]? = W.heap[g]?) : AlF W' g L al :=
  ⟨hs, fun i hi => by
    rw [← h.2 i hi]
    unfold World.cell?
    simp only [e]⟩
end Go.Proofs.YtihjndakgncdaaaGreatDoor
/- Proved: the contract of the draw of params: three numbers and one to nine primes are told, nothing panics, and nothing that was there changes but the cursor. -/
namespace Go.Proofs.YtihjndakgncdaaaGreatDoor
open Go.ChangeShapes Go.WideShapes Go.ChangeAt Go.RowKit
set_option linter.unusedVariables false
set_option linter.unusedSimpArgs false
def CuPm (w : World) (code : Value) (len c B : Nat) (e : Ending) (w' : World) : Prop :=
  ∃ N T E a cp xs, e = .returned (.agg #[.int .i64 N, .int .i64 T, .int .i64 E, .slice a xs.length cp]) ∧ (1 ≤ xs.length ∧ xs.length ≤ 4) ∧ (∀ x ∈ xs, PrB x) ∧ Chg w w' c (c + 1) ∧ Cu w' code len c B ∧ Own w' w.heap.size (.slice a xs.length cp) xs
theorem bk_q0 {w : World} {k : Nat} {x0 x1 x2 x3 : Value} {t : TypeId} (h : Bk w k #[x0, x1, x2, x3] t) (y : Value) : Bk (w.setCell ⟨k, 0, none⟩ y) k #[y, x1, x2, x3] t := (heap_setCell_same w k 0 _ _ y h).trans rfl
theorem bk_q1 {w : World} {k : Nat} {x0 x1 x2 x3 : Value} {t : TypeId} (h : Bk w k #[x0, x1, x2, x3] t) (y : Value) : Bk (w.setCell ⟨k, 1, none⟩ y) k #[x0, y, x2, x3] t := (heap_setCell_same w k 1 _ _ y h).trans rfl
theorem bk_q2 {w : World} {k : Nat} {x0 x1 x2 x3 : Value} {t : TypeId} (h : Bk w k #[x0, x1, x2, x3] t) (y : Value) : Bk (w.setCell ⟨k, 2, none⟩ y) k #[x0, x1, y, x3] t := (heap_setCell_same w k 2 _ _ y h).trans rfl
theorem bk_q3 {w : World} {k : Nat} {x0 x1 x2 x3 : Value} {t : TypeId} (h : Bk w k #[x0, x1, x2, x3] t) (y : Value) : Bk (w.setCell ⟨k, 3, none⟩ y) k #[x0, x1, x2, y] t := (heap_setCell_same w k 3 _ _ y h).trans rfl
structure PSt (w : World) (code : Value) (len c kb lo n B : Nat) (nb nt ne : Int) (a : Option Addr) (cp : Nat) (xs : List Int) (W : World) : Prop where
  hl : xs.length = n
  ho : W.ownsRow lo 3 1 (.slice a n cp) n (xs.map (Value.int .i64))
  hk : Bk W kb #[.int .i64 nb, .int .i64 nt, .int .i64 ne, .slice a n cp] 25
  hr : Bk W w.heap.size #[.int .i64 0, .int .i64 0, .int .i64 0, .slice none 0 0] 25
  hc : Cu W code len c B
  hg : Chg w W c (c + 1)
  hlt : w.heap.size < kb
  hcl : c < w.heap.size
  hlo : kb < lo
theorem PSt.draw {w W W' : World} {code : Value} {len c kb lo n B B' : Nat} {nb nt ne : Int} {a : Option Addr} {cp : Nat} {xs : List Int} (h : PSt w code len c kb lo n B nb nt ne a cp xs W) (g : Chg W W' c (c + 1)) (C : Cu W' code len c B') : PSt w code len c kb lo n B' nb nt ne a cp xs W' :=
  ⟨h.hl, row_far h.ho (fun b hb hb2 => g.block b hb2 (Or.inr (by have := h.hlt; have := h.hlo; have := h.hcl; omega))), h.hk.chg g (Or.inr (by have := h.hlt; have := h.hlo; have := h.hcl; omega)), h.hr.chg g (Or.inr (by have := h.hcl; omega)), C, h.hg.trans g, h.hlt, h.hcl, h.hlo⟩
theorem PSt.pN {w W : World} {code : Value} {len c kb lo n B : Nat} {nb nt ne : Int} {a : Option Addr} {cp : Nat} {xs : List Int} (h : PSt w code len c kb lo n B nb nt ne a cp xs W) (b : Int) : PSt w code len c kb lo n B b nt ne a cp xs (W.setCell ⟨kb, 0, none⟩ (.int .i64 b)) :=
  ⟨h.hl, row_far h.ho (fun b' hb _ => heap_setCell_other _ _ _ _ (by have := h.hlo; show b' ≠ kb; omega)), bk_q0 h.hk _, bk_other h.hr (by have := h.hlt; have := h.hlo; show w.heap.size ≠ kb; omega) _, cu_own h.hc (by have := h.hlt; have := h.hlo; have := h.hcl; show c < kb; omega) _, chg_own h.hg (by have := h.hlt; have := h.hlo; show w.heap.size ≤ kb; omega) _, h.hlt, h.hcl, h.hlo⟩
theorem PSt.pT {w W : World} {code : Value} {len c kb lo n B : Nat} {nb nt ne : Int} {a : Option Addr} {cp : Nat} {xs : List Int} (h : PSt w code len c kb lo n B nb nt ne a cp xs W) (b : Int) : PSt w code len c kb lo n B nb b ne a cp xs (W.setCell ⟨kb, 1, none⟩ (.int .i64 b)) :=
  ⟨h.hl, row_far h.ho (fun b' hb _ => heap_setCell_other _ _ _ _ (by have := h.hlo; show b' ≠ kb; omega)), bk_q1 h.hk _, bk_other h.hr (by have := h.hlt; have := h.hlo; show w.heap.size ≠ kb; omega) _, cu_own h.hc (by have := h.hlt; have := h.hlo; have := h.hcl; show c < kb; omega) _, chg_own h.hg (by have := h.hlt; have := h.hlo; show w.heap.size ≤ kb; omega) _, h.hlt, h.hcl, h.hlo⟩
theorem PSt.pE {w W : World} {code : Value} {len c kb lo n B : Nat} {nb nt ne : Int} {a : Option Addr} {cp : Nat} {xs : List Int} (h : PSt w code len c kb lo n B nb nt ne a cp xs W) (b : Int) : PSt w code len c kb lo n B nb nt b a cp xs (W.setCell ⟨kb, 2, none⟩ (.int .i64 b)) :=
  ⟨h.hl, row_far h.ho (fun b' hb _ => heap_setCell_other _ _ _ _ (by have := h.hlo; show b' ≠ kb; omega)), bk_q2 h.hk _, bk_other h.hr (by have := h.hlt; have := h.hlo; show w.heap.size ≠ kb; omega) _, cu_own h.hc (by have := h.hlt; have := h.hlo; have := h.hcl; show c < kb; omega) _, chg_own h.hg (by have := h.hlt; have := h.hlo; show w.heap.size ≤ kb; omega) _, h.hlt, h.hcl, h.hlo⟩
theorem PSt.cell {w W : World} {code : Value} {len c kb lo n B g : Nat} {nb nt ne : Int} {cp : Nat} {xs : List Int} (h : PSt w code len c kb lo n B nb nt ne (some ⟨g, 0, none⟩) cp xs W) (i : Nat) (hi : i < n) : W.cell? ⟨g, i, none⟩ = some (.int .i64 (xs.getD i 0)) ∧ W.frozen? ⟨g, i, none⟩ = false := by
  have hx : i < xs.length := by rw [h.hl]; exact hi
  have h1 := World.ownsRow.cellAt h.ho i (by omega)
  have h2 := World.ownsRow.frozenAt h.ho i
  refine ⟨?_, by simpa using h2⟩
  have h3 : W.cell? ⟨g, i, none⟩ = (xs.map (Value.int .i64))[i]? := by simpa using h1
  rw [h3]
  simp [List.getD, hx]
theorem PSt.addr {w W : World} {code : Value} {len c kb lo n B : Nat} {nb nt ne : Int} {a : Option Addr} {cp : Nat} {xs : List Int} (h : PSt w code len c kb lo n B nb nt ne a cp xs W) (hn : 0 < n) : ∃ g, a = some ⟨g, 0, none⟩ := by
  rcases h.ho.2 with ⟨h1, h2⟩ | ⟨g, cap, cur, e, _⟩
  · omega
  · injection e with e1
    exact ⟨g, e1⟩
theorem PSt.push {w W w6 : World} {code : Value} {len c kb lo n B : Nat} {nb nt ne : Int} {a a5 : Option Addr} {cp c5 : Nat} {xs : List Int} (y : Int) (h : PSt w code len c kb lo n B nb nt ne a cp xs W) (o5 : w6.ownsRow lo 3 1 (.slice a5 (n + 1) c5) (n + 1) (xs.map (Value.int .i64) ++ [Value.int .i64 y])) (g5 : W.grownBy w6 (Value.slice a n cp).ownBlock) : Bk w6 kb #[.int .i64 nb, .int .i64 nt, .int .i64 ne, .slice a n cp] 25 ∧ PSt w code len c kb lo (n + 1) B nb nt ne a5 c5 (xs ++ [y]) (w6.setCell ⟨kb, 3, none⟩ (.slice a5 (n + 1) c5)) := by
  have hob : ∀ j, (Value.slice a n cp).ownBlock = some j → kb < j := fun j e => by
    have := h.hlo
    rcases h.ho.2 with ⟨h1, _⟩ | ⟨g', cap, cur, e1, hb, _⟩
    · rw [h1] at e
      cases e
    · rw [e1] at e
      have : g' = j := Option.some.inj e
      omega
  have := h.hlt
  have := h.hlo
  have := h.hcl
  have hk6 : Bk w6 kb #[.int .i64 nb, .int .i64 nt, .int .i64 ne, .slice a n cp] 25 := bk_grownW h.hk g5 hob
  refine ⟨hk6, by rw [List.length_append, h.hl]; rfl, ?_, bk_q3 hk6 _, bk_other (bk_grownW h.hr g5 (fun j e => by have := hob j e; omega)) (by show w.heap.size ≠ kb; omega) _, cu_own (h.hc.grown g5 (fun j e => by have := hob j e; omega)) (by show c < kb; omega) _, chg_own (chg_grown h.hg g5 (fun j e => by have := hob j e; omega)) (by show w.heap.size ≤ kb; omega) _, h.hlt, h.hcl, h.hlo⟩
  rw [List.map_append]
  exact row_far o5 (fun b' hb _ => heap_setCell_other _ _ _ _ (by have := h.hlo; show b' ≠ kb; omega))
theorem PSt.alf {w W w6 : World} {code : Value} {len c kb lo n B gA L : Nat} {nb nt ne : Int} {a : Option Addr} {cp : Nat} {xs al : List Int} (h : PSt w code len c kb lo n B nb nt ne a cp xs W) (hA : AlF W gA L al) (h1 : kb < gA) (h2 : gA < lo) (v : Value) (g5 : W.grownBy w6 (Value.slice a n cp).ownBlock) : AlF (w6.setCell ⟨kb, 3, none⟩ v) gA L al := by
  have hob : ∀ j, (Value.slice a n cp).ownBlock = some j → lo ≤ j := fun j e => by
    rcases h.ho.2 with ⟨h1, _⟩ | ⟨g', cap, cur, e1, hb, _⟩
    · rw [h1] at e
      cases e
    · rw [e1] at e
      have : g' = j := Option.some.inj e
      omega
  have e6 : w6.heap[gA]? = W.heap[gA]? := g5.block gA hA.1 (fun e => by have := hob gA e.symm; omega)
  have s6 : gA < w6.heap.size := by
    have := (Array.getElem?_eq_some_iff.1 (e6.trans (Array.getElem?_eq_getElem hA.1))).1
    exact this
  exact hA.eq (by rw [World.size_setCell]; exact s6) ((heap_setCell_other _ _ _ _ (by show gA ≠ kb; omega)).trans e6)
theorem PSt.nk {w W : World} {code : Value} {len c kb lo n B : Nat} {nb nt ne : Int} {a : Option Addr} {cp : Nat} {xs : List Int} (h : PSt w code len c kb lo n B nb nt ne a cp xs W) : ∀ b, (Value.slice a n cp).ownBlock = some b → b ≠ kb := fun j e => by
  have := h.hlo
  rcases h.ho.2 with ⟨h1, _⟩ | ⟨g', cap, cur, e1, hb, _⟩
  · rw [h1] at e
    cases e
  · rw [e1] at e
    have : g' = j := Option.some.inj e
    omega
theorem PSt.old {w W W' : World} {code : Value} {len c kb lo n B : Nat} {nb nt ne : Int} {a : Option Addr} {cp : Nat} {xs : List Int} (h : PSt w code len c kb lo n B nb nt ne a cp xs W) (g : Old W W') : PSt w code len c kb lo n B nb nt ne a cp xs W' := h.draw (g.toChg _ _) (h.hc.old g)
theorem PSt.ends {w W : World} {code : Value} {len c kb lo n B B' : Nat} {nb nt ne : Int} {a : Option Addr} {cp : Nat} {xs : List Int} (h : PSt w code len c kb lo n B nb nt ne a cp xs W) (hn : 1 ≤ n ∧ n ≤ 4) (hx : ∀ x ∈ xs, PrB x) (hB : B ≤ B') : CuPm w code len c B' (.returned (.agg #[.int .i64 nb, .int .i64 nt, .int .i64 ne, .slice a n cp])) ((((W.setCell ⟨w.heap.size, 0, none⟩ (.int .i64 nb)).setCell ⟨w.heap.size, 1, none⟩ (.int .i64 nt)).setCell ⟨w.heap.size, 2, none⟩ (.int .i64 ne)).setCell ⟨w.heap.size, 3, none⟩ (.slice a n cp)) := by
  have := h.hlt
  have := h.hcl
  have := h.hlo
  refine ⟨nb, nt, ne, a, cp, xs, by rw [h.hl], by rw [h.hl]; exact hn, hx, chg_own (chg_own (chg_own (chg_own h.hg (Nat.le_refl _) _) (Nat.le_refl _) _) (Nat.le_refl _) _) (Nat.le_refl _) _, (cu_own (cu_own (cu_own (cu_own h.hc (by exact h.hcl) _) (by exact h.hcl) _) (by exact h.hcl) _) (by exact h.hcl) _).mono hB, ?_⟩
  refine Own.low (base := lo) ?_ (by omega)
  unfold Own
  rw [h.hl]
  have st : ∀ (X : World) (i : Nat) (v : Value) (b' : Nat), lo ≤ b' → (X.setCell ⟨w.heap.size, i, none⟩ v).heap[b']? = X.heap[b']? := fun X i v b' hb => heap_setCell_other _ _ _ _ (by show b' ≠ w.heap.size; omega)
  exact row_far h.ho (fun b' hb _ => (st _ 3 _ b' hb).trans ((st _ 2 _ b' hb).trans ((st _ 1 _ b' hb).trans (st _ 0 _ b' hb))))
theorem PSt.low {w W : World} {code : Value} {len c kb lo n B : Nat} {nb nt ne : Int} {a : Option Addr} {cp : Nat} {xs : List Int} (h : PSt w code len c kb lo n B nb nt ne a cp xs W) (hn : 0 < n) : lo ≤ W.heap.size := by
  rcases h.ho.2 with ⟨h1, h2⟩ | ⟨g, cap, cur, e, hb, hc, _⟩
  · omega
  · have := (Array.getElem?_eq_some_iff.1 hc).1
    omega
theorem PSt.single {w W : World} {code : Value} {len c kb lo n B : Nat} {nb nt ne : Int} {a : Option Addr} {cp : Nat} {xs : List Int} (h : PSt w code len c kb lo n B nb nt ne a cp xs W) (y : Int) : PSt w code len c kb W.heap.size 1 B nb nt ne (some ⟨W.heap.size, 0, none⟩) 1 [y] ((W.alloc (.cells #[.int .i64 y] 3)).setCell ⟨kb, 3, none⟩ (.slice (some ⟨W.heap.size, 0, none⟩) 1 1)) := by
  have hk := h.hk.lt
  have := h.hlt
  have := h.hcl
  have := h.hlo
  have o1 : Old W (W.alloc (.cells #[.int .i64 y] 3)) := (Old.refl W).alloc _
  refine ⟨rfl, row_far (World.ownsRow_lit (base := W.heap.size) (e := 3) (size := 1) W #[.int .i64 y] 1 (Nat.le_refl _) (by unfold maxLen; omega) (by simp)) (fun b' hb _ => heap_setCell_other _ _ _ _ (by show b' ≠ kb; omega)), bk_q3 (h.hk.old o1) _, bk_other (h.hr.old o1) (by show w.heap.size ≠ kb; omega) _, cu_own (h.hc.old o1) (by show c < kb; omega) _, chg_own (chg_alloc h.hg _) (by show w.heap.size ≤ kb; omega) _, h.hlt, h.hcl, hk⟩
set_option maxRecDepth 100000 in
set_option maxHeartbeats 8000000 in
theorem params_c {w : World} {code : Value} {len c B : Nat} (h : Cu w code len c B) (hB : B ≤ 34359738368) (hl : len ≤ 9223372036854775807) :
    Calls Tryz.prog 13 #[.pointer (some ⟨c, 0, none⟩)] w fun e w' => CuPm w code len c (B + 1000) e w' := by
  obtain ⟨i0, hi, hz0, hz1, hz2⟩ := info_parts Tryz.infoInt
  have hcw := h.lt
  have HR0 : Hid (Bk (w.alloc (.cells #[.int .i64 0, .int .i64 0, .int .i64 0, .slice none 0 0] 25)) w.heap.size #[.int .i64 0, .int .i64 0, .int .i64 0, .slice none 0 0] 25) := Bk.new' w _ _ rfl
  have HG0 : Hid (Chg w (w.alloc (.cells #[.int .i64 0, .int .i64 0, .int .i64 0, .slice none 0 0] 25)) c (c + 1)) := ((Old.refl w).alloc _).toChg _ _
  have C0 := hid (h.old ((Old.refl w).alloc (.cells #[.int .i64 0, .int .i64 0, .int .i64 0, .slice none 0 0] 25)))
  obtain ⟨W0, hW0⟩ : ∃ W0, w.alloc (.cells #[.int .i64 0, .int .i64 0, .int .i64 0, .slice none 0 0] 25) = W0 := ⟨_, rfl⟩
  rw [hW0] at HR0 HG0 C0
  have c1 := among_lit3 C0.out (by omega) hl [2, 4, 8, 16] (by decide) (by decide) 3
  clear h C0
  go_enter Tryz.func13, Tryz.ntmps13
  go_wp2_with fail
  refine c1.mono ?_
  rintro e w1 ⟨⟨n, hn, rfl⟩, g1, C1⟩
  have HG1 := hid (HG0.out.trans g1)
  have HR1 := hid (HR0.out.chg g1 (Or.inr (by omega)))
  have HC1 := hid C1
  have hc1 : c < w1.heap.size := HC1.out.lt
  clear g1 C1 c1 HG0 HR0 hn hW0
  have c2 := among_lit3 HC1.out (by omega) hl [2, 17, 97, 16, 65] (by decide) (by decide) 3
  go_wp2_with fail
  refine c2.mono ?_
  rintro e w2 ⟨⟨tt, ht, rfl⟩, g2, C2⟩
  have HG2 := hid (HG1.out.trans g2)
  have HR2 := hid (HR1.out.chg g2 (Or.inr (by omega)))
  have HC2 := hid C2
  clear g2 C2 c2 HG1 HR1 HC1 ht
  have c3 := pick_c HC2.out (by omega) hl 4 (by omega) (by omega)
  go_wp2_with fail
  refine c3.mono ?_
  rintro e w3 ⟨⟨ev, hev, rfl⟩, g3, C3⟩
  have HG3 := hid (HG2.out.trans g3)
  have HR3 := hid (HR2.out.chg g3 (Or.inr (by omega)))
  have HC3 := hid C3
  have hw3 : IntKind.i64.wrap (1 + ev) = 1 + ev := by rw [IntKind.wrap_i64]; omega
  clear g3 C3 c3 HG2 HR2 HC2
  obtain ⟨ee, hee⟩ : ∃ ee : Int, 1 + ev = ee := ⟨_, rfl⟩
  rw [hee] at hw3
  go_wp2_with fail
  try rw [hee]
  refine (primes_c _).mono ?_
  obtain ⟨W1, hW1⟩ : ∃ W1, w3.alloc (.cells #[.int .i64 n, .int .i64 tt, .int .i64 ee, .slice none 0 0] 25) = W1 := ⟨_, rfl⟩
  have sz1 : W1.heap.size = w3.heap.size + 1 := by rw [← hW1]; simp
  have KB1 : Hid (Bk W1 w3.heap.size #[.int .i64 n, .int .i64 tt, .int .i64 ee, .slice none 0 0] 25) := by rw [← hW1]; exact Bk.new' w3 _ _ rfl
  have HR4 : Hid (Bk W1 w.heap.size #[.int .i64 0, .int .i64 0, .int .i64 0, .slice none 0 0] 25) := by rw [← hW1]; exact HR3.out.alloc _
  have HC4 : Hid (Cu W1 code len c (B + 2 + 2 + 2)) := by rw [← hW1]; exact HC3.out.old ((Old.refl w3).alloc _)
  have HG4 : Hid (Chg w W1 c (c + 1)) := by rw [← hW1]; exact chg_alloc HG3.out _
  rw [hW1]
  obtain ⟨kb, hkb⟩ : ∃ kb, w3.heap.size = kb := ⟨_, rfl⟩
  have hwk : w.heap.size < kb := by rw [← hkb]; exact HR3.out.lt
  rw [hkb] at KB1 sz1 ⊢
  rintro e w4 ⟨rfl, hw4⟩
  have HW4 := hid hw4
  have A4 : Hid (AlF w4 W1.heap.size 10 [268435361, 268435009, 268434977, 268434721, 268434401, 268433761, 268433569, 268433441, 268433377, 268433057]) := by rw [HW4.out]; exact alf_litS W1 [268435361, 268435009, 268434977, 268434721, 268434401, 268433761, 268433569, 268433441, 268433377, 268433057] 10 rfl 3
  have g4 : Hid (Old W1 w4) := by rw [HW4.out]; exact (Old.refl W1).alloc _
  obtain ⟨gA, hgE⟩ : ∃ gA, kb + 1 = gA := ⟨_, rfl⟩
  obtain ⟨lo, hlo⟩ : ∃ lo, gA + 1 = lo := ⟨_, rfl⟩
  have hgA : kb < gA := by omega
  have hgL : gA < lo := by omega
  have hgc : c < gA := by omega
  rw [sz1, hgE] at A4 ⊢
  have S4 : Hid (PSt w code len c kb lo 0 (B + 2 + 2 + 2) n tt ee none 0 [] w4) := ⟨rfl, ⟨rfl, .inl ⟨rfl, rfl⟩⟩, KB1.out.old g4.out, HR4.out.old g4.out, HC4.out.old g4.out, HG4.out.trans (g4.out.toChg _ _), hwk, hcw, by omega⟩
  clear HG3 HR3 HC3 HG4 HR4 HC4 KB1 g4 hw4 HW4 hW1 hkb sz1 hee hw3 hev
  obtain ⟨al, hal⟩ : ∃ al : List Int, [268435361, 268435009, 268434977, 268434721, 268434401, 268433761, 268433569, 268433441, 268433377, 268433057] = al := ⟨_, rfl⟩
  have HAB : Hid (∀ i, i < 10 → 1 ≤ al.getD i 0 ∧ al.getD i 0 ≤ 268435456) := by rw [← hal]; show ∀ i, i < 10 → _; decide
  rw [hal] at A4
  clear hal
  have c5 := pick_c S4.out.hc (by omega) hl 10 (by omega) (by omega)
  go_wp2_with fail
  refine c5.mono ?_
  rintro e w5 ⟨⟨s, hs, rfl⟩, gq, Cq⟩
  have S5 := hid (S4.out.draw gq Cq)
  have A5 := hid (A4.out.chg gq hgc)
  clear gq Cq c5 S4 A4
  have c6 := pick_c S5.out.hc (by omega) hl 3 (by omega) (by omega)
  go_wp2_with fail
  refine c6.mono ?_
  rintro e w6 ⟨⟨r, hr, rfl⟩, gq, Cq⟩
  have S6 := hid (S5.out.draw gq Cq)
  have A6 := hid (A5.out.chg gq hgc)
  clear gq Cq c6 S5 A5
  obtain ⟨n1, hn1, er⟩ : ∃ n1 : Nat, (1 ≤ n1 ∧ n1 ≤ 3) ∧ 1 + r = n1 := ⟨(1 + r).toNat, by omega, by omega⟩
  go_wp2_with fail
  try rw [er]
  clear er hr
  go_loopw [6] (fun kv W' => ∃ (j k : Nat) (a : Option Addr) (cp : Nat) (xs : List Int), j + k = n1 ∧ kv = .int .i64 (k : Int) ∧ Hid (∀ x ∈ xs, PrB x) ∧ Hid (AlF W' gA 10 al) ∧ Hid (PSt w code len c kb lo j (B + 2 + 2 + 2 + 2 + 2) n tt ee a cp xs W')) (fun kv _ => (intOf kv).toNat)
  case atStart => exact ⟨0, n1, none, 0, [], by omega, rfl, (fun x hx => by cases hx), A6, S6⟩
  case round =>
    obtain ⟨j, k, a, cp, xs, hjk, rfl, HX, A1, S1⟩ := hrel
    clear S6 A6
    by_cases hlt : 0 < k
    · obtain ⟨k', hk'⟩ : ∃ k' : Nat, (k : Int) - 1 = (k' : Int) ∧ k' + 1 = k := ⟨k - 1, by omega, by omega⟩
      have es := hk'.1
      have ek := hk'.2
      clear hk'
      have d1 : decide ((0 : Int) < (k : Int)) = true := decide_eq_true (by omega)
      have d2 : decide (0 < k) = true := decide_eq_true (by omega)
      have em : (s + (k : Int)).tmod 10 = (s + (k : Int)) % 10 := Int.tmod_eq_emod_of_nonneg (by omega)
      obtain ⟨i, hi1, ei⟩ : ∃ i : Nat, i < 10 ∧ (s + (k : Int)) % 10 = (i : Int) := ⟨((s + (k : Int)) % 10).toNat, by omega, by omega⟩
      rw [ei] at em
      have cv := A1.out.2 i hi1
      have hyb := HAB.out i hi1
      obtain ⟨y, hy⟩ : ∃ y, al.getD i 0 = y := ⟨_, rfl⟩
      rw [hy] at cv hyb
      clear hy
      have hi2 : (i : Int) < 10 := by omega
      have k1 := S1.out.hk.c (i := 3) rfl
      go_wp2_with fail
      refine reg_Pm wr kb n tt ee a j cp y gA 10 i s (k : Int) (fun W v => ∃ a5 c5, v = .slice a5 (j + 1) c5 ∧ AlF W gA 10 al ∧ PSt w code len c kb lo (j + 1) (B + 2 + 2 + 2 + 2 + 2) n tt ee a5 c5 (xs ++ [y]) W) (by omega) lo (by have := A1.out.1; omega) S1.out.hk S1.out.nk k1 cv (by omega) (by omega) (by omega) em hi1 hi2 (by omega) (fun W g => ⟨_, (S1.out.old g).ho, fun v' w' o5 g5 => by obtain ⟨a5, c5, rfl⟩ := sliceOfRowW o5; exact ⟨a5, c5, rfl, (S1.out.old g).alf (A1.out.chg (g.toChg c (c + 1)) hgc) hgA hgL _ g5, ((S1.out.old g).push y o5 g5).2⟩⟩) _ _ ?_ ?_ ?_ ?_ ?_ ?_
      iterate 5 (· exact rfl)
      intro us W7 a5 c5 h7
      obtain ⟨a6, c6, e6, A7, S7⟩ := h7
      have A7 := hid A7
      have S7 := hid S7
      injection e6 with e61 e62 e63
      subst e61 e63
      simp only [putAll, Act.put, slotPm, List.range, List.range.loop, List.map_cons, List.map_nil, List.getD_cons_zero, List.getD_cons_succ, List.setIfInBounds_toArray, List.set_cons_succ, List.set_cons_zero]
      go_wp2_with fail
      exact ⟨⟨j + 1, k', a5, c5, xs ++ [y], by omega, by first | rfl | go_num, (fun x hx => by rcases List.mem_append.1 hx with h1 | h1; exact HX.out x h1; simp at h1; subst h1; exact hyb), A7, S7⟩, by simp [intOf]; omega⟩
    · obtain rfl : k = 0 := by omega
      obtain rfl : j = n1 := by omega
      have d1 : decide ((0 : Int) < ((0 : Nat) : Int)) = false := rfl
      clear hlt hjk HAB A1
      have c7 := one_c S1.out.hc (by omega) hl 6 (by omega) (by omega)
      go_wp2_with fail
      refine c7.mono ?_
      rintro e w14 ⟨⟨ob, rfl⟩, gq, Cq⟩
      have S8 := hid (S1.out.draw gq Cq)
      clear gq Cq c7 S1
      clear d1
      cases ob
      · obtain ⟨ga, rfl⟩ := S8.out.addr (by omega)
        have hj1 : 0 < j := by omega
        have c7 := pick_c S8.out.hc (by omega) hl 60 (by omega) (by omega)
        go_wp2_with fail
        refine c7.mono ?_
        rintro e w15 ⟨⟨u, hu, rfl⟩, gq, Cq⟩
        have S2 := hid (S8.out.draw gq Cq)
        clear gq Cq c7 S8
        by_cases u0 : u = 0
        · subst u0
          have dq0 : ((0 : Int) == 0) = true := rfl
          have c8 := among_lit3 S2.out.hc (by omega) hl [1, 65536, 65537] (by decide) (by decide) 3
          go_wp2_with fail
          refine c8.mono ?_
          rintro e w17 ⟨⟨y, hy, rfl⟩, gq, Cq⟩
          have S3 := hid (S2.out.draw gq Cq)
          clear gq Cq c8 S2
          have p0 := S3.out.hk.c (i := 1) rfl
          have p1 := frozen_of_row _ _ 1 _ _ S3.out.hk
          have S4 := hid (S3.out.pT y)
          have e0 := S4.out.hk.c (i := 0) rfl
          have e1 := S4.out.hk.c (i := 1) rfl
          have e2 := S4.out.hk.c (i := 2) rfl
          have e3 := S4.out.hk.c (i := 3) rfl
          have r0 := S4.out.hr.c (i := 0) rfl
          have r1 := S4.out.hr.c (i := 1) rfl
          have r2 := S4.out.hr.c (i := 2) rfl
          have r3 := S4.out.hr.c (i := 3) rfl
          have t0 := frozen_of_row _ _ 0 _ _ S4.out.hr
          have t1 := frozen_of_row _ _ 1 _ _ S4.out.hr
          have t2 := frozen_of_row _ _ 2 _ _ S4.out.hr
          have t3 := frozen_of_row _ _ 3 _ _ S4.out.hr
          go_wp2_with fail
          have q0 := (bk_q3 (bk_q2 (bk_q1 (bk_q0 S4.out.hr (.int .i64 n)) (.int .i64 y)) (.int .i64 ee)) (.slice (some ⟨ga, 0, none⟩) j cp)).c (i := 0) rfl
          have q1 := (bk_q3 (bk_q2 (bk_q1 (bk_q0 S4.out.hr (.int .i64 n)) (.int .i64 y)) (.int .i64 ee)) (.slice (some ⟨ga, 0, none⟩) j cp)).c (i := 1) rfl
          have q2 := (bk_q3 (bk_q2 (bk_q1 (bk_q0 S4.out.hr (.int .i64 n)) (.int .i64 y)) (.int .i64 ee)) (.slice (some ⟨ga, 0, none⟩) j cp)).c (i := 2) rfl
          have q3 := (bk_q3 (bk_q2 (bk_q1 (bk_q0 S4.out.hr (.int .i64 n)) (.int .i64 y)) (.int .i64 ee)) (.slice (some ⟨ga, 0, none⟩) j cp)).c (i := 3) rfl
          refine bodyPost_ret (v := .agg #[.int .i64 n, .int .i64 y, .int .i64 ee, .slice (some ⟨ga, 0, none⟩) j cp]) (by simp [results, Tryz.results13, go_sem, q0, q1, q2, q3]) rfl ?_
          exact S4.out.ends (by omega) HX.out (by omega)
        have dq0 : (u == 0) = false := by simpa using u0
        by_cases u1 : u = 1
        · subst u1
          have dq1 : ((1 : Int) == 1) = true := rfl
          have dk0 : ((1 : Int) == 0) = false := rfl
          have c8 := among_lit3 S2.out.hc (by omega) hl [0, 16, 17] (by decide) (by decide) 3
          go_wp2_with fail
          refine c8.mono ?_
          rintro e w17 ⟨⟨y, hy, rfl⟩, gq, Cq⟩
          have S3 := hid (S2.out.draw gq Cq)
          clear gq Cq c8 S2
          have p0 := S3.out.hk.c (i := 2) rfl
          have p1 := frozen_of_row _ _ 2 _ _ S3.out.hk
          have S4 := hid (S3.out.pE y)
          have e0 := S4.out.hk.c (i := 0) rfl
          have e1 := S4.out.hk.c (i := 1) rfl
          have e2 := S4.out.hk.c (i := 2) rfl
          have e3 := S4.out.hk.c (i := 3) rfl
          have r0 := S4.out.hr.c (i := 0) rfl
          have r1 := S4.out.hr.c (i := 1) rfl
          have r2 := S4.out.hr.c (i := 2) rfl
          have r3 := S4.out.hr.c (i := 3) rfl
          have t0 := frozen_of_row _ _ 0 _ _ S4.out.hr
          have t1 := frozen_of_row _ _ 1 _ _ S4.out.hr
          have t2 := frozen_of_row _ _ 2 _ _ S4.out.hr
          have t3 := frozen_of_row _ _ 3 _ _ S4.out.hr
          go_wp2_with fail
          have q0 := (bk_q3 (bk_q2 (bk_q1 (bk_q0 S4.out.hr (.int .i64 n)) (.int .i64 tt)) (.int .i64 y)) (.slice (some ⟨ga, 0, none⟩) j cp)).c (i := 0) rfl
          have q1 := (bk_q3 (bk_q2 (bk_q1 (bk_q0 S4.out.hr (.int .i64 n)) (.int .i64 tt)) (.int .i64 y)) (.slice (some ⟨ga, 0, none⟩) j cp)).c (i := 1) rfl
          have q2 := (bk_q3 (bk_q2 (bk_q1 (bk_q0 S4.out.hr (.int .i64 n)) (.int .i64 tt)) (.int .i64 y)) (.slice (some ⟨ga, 0, none⟩) j cp)).c (i := 2) rfl
          have q3 := (bk_q3 (bk_q2 (bk_q1 (bk_q0 S4.out.hr (.int .i64 n)) (.int .i64 tt)) (.int .i64 y)) (.slice (some ⟨ga, 0, none⟩) j cp)).c (i := 3) rfl
          refine bodyPost_ret (v := .agg #[.int .i64 n, .int .i64 tt, .int .i64 y, .slice (some ⟨ga, 0, none⟩) j cp]) (by simp [results, Tryz.results13, go_sem, q0, q1, q2, q3]) rfl ?_
          exact S4.out.ends (by omega) HX.out (by omega)
        have dq1 : (u == 1) = false := by simpa using u1
        by_cases u2 : u = 2
        · subst u2
          have dq2 : ((2 : Int) == 2) = true := rfl
          have dk0 : ((2 : Int) == 0) = false := rfl
          have dk1 : ((2 : Int) == 1) = false := rfl
          have c8 := among_lit3 S2.out.hc (by omega) hl [1, 3, 32] (by decide) (by decide) 3
          go_wp2_with fail
          refine c8.mono ?_
          rintro e w17 ⟨⟨y, hy, rfl⟩, gq, Cq⟩
          have S3 := hid (S2.out.draw gq Cq)
          clear gq Cq c8 S2
          have p0 := S3.out.hk.c (i := 0) rfl
          have p1 := frozen_of_row _ _ 0 _ _ S3.out.hk
          have S4 := hid (S3.out.pN y)
          have e0 := S4.out.hk.c (i := 0) rfl
          have e1 := S4.out.hk.c (i := 1) rfl
          have e2 := S4.out.hk.c (i := 2) rfl
          have e3 := S4.out.hk.c (i := 3) rfl
          have r0 := S4.out.hr.c (i := 0) rfl
          have r1 := S4.out.hr.c (i := 1) rfl
          have r2 := S4.out.hr.c (i := 2) rfl
          have r3 := S4.out.hr.c (i := 3) rfl
          have t0 := frozen_of_row _ _ 0 _ _ S4.out.hr
          have t1 := frozen_of_row _ _ 1 _ _ S4.out.hr
          have t2 := frozen_of_row _ _ 2 _ _ S4.out.hr
          have t3 := frozen_of_row _ _ 3 _ _ S4.out.hr
          go_wp2_with fail
          have q0 := (bk_q3 (bk_q2 (bk_q1 (bk_q0 S4.out.hr (.int .i64 y)) (.int .i64 tt)) (.int .i64 ee)) (.slice (some ⟨ga, 0, none⟩) j cp)).c (i := 0) rfl
          have q1 := (bk_q3 (bk_q2 (bk_q1 (bk_q0 S4.out.hr (.int .i64 y)) (.int .i64 tt)) (.int .i64 ee)) (.slice (some ⟨ga, 0, none⟩) j cp)).c (i := 1) rfl
          have q2 := (bk_q3 (bk_q2 (bk_q1 (bk_q0 S4.out.hr (.int .i64 y)) (.int .i64 tt)) (.int .i64 ee)) (.slice (some ⟨ga, 0, none⟩) j cp)).c (i := 2) rfl
          have q3 := (bk_q3 (bk_q2 (bk_q1 (bk_q0 S4.out.hr (.int .i64 y)) (.int .i64 tt)) (.int .i64 ee)) (.slice (some ⟨ga, 0, none⟩) j cp)).c (i := 3) rfl
          refine bodyPost_ret (v := .agg #[.int .i64 y, .int .i64 tt, .int .i64 ee, .slice (some ⟨ga, 0, none⟩) j cp]) (by simp [results, Tryz.results13, go_sem, q0, q1, q2, q3]) rfl ?_
          exact S4.out.ends (by omega) HX.out (by omega)
        have dq2 : (u == 2) = false := by simpa using u2
        by_cases u3 : u = 3
        · subst u3
          have dq3 : ((3 : Int) == 3) = true := rfl
          have dk0 : ((3 : Int) == 0) = false := rfl
          have dk1 : ((3 : Int) == 1) = false := rfl
          have dk2 : ((3 : Int) == 2) = false := rfl
          have hj0 : (0 : Int) < ((j : Nat) : Int) := by omega
          have hj1 : 0 < j := by omega
          have k2 := (S2.out.cell 0 hj1).1
          have hxl := S2.out.hl
          have hyb := HX.out (xs.getD 0 0) (by simp [List.getD, show 0 < xs.length by omega])
          obtain ⟨y, hy⟩ : ∃ y, xs.getD 0 0 = y := ⟨_, rfl⟩
          rw [hy] at k2 hyb
          clear hy hxl
          have k1 := S2.out.hk.c (i := 3) rfl
          go_wp2_with fail
          refine reg_Pr w15 kb n tt ee (some ⟨ga, 0, none⟩) j cp y ga (fun W v => ∃ a5 c5, v = .slice a5 (j + 1) c5 ∧ PSt w code len c kb lo (j + 1) (B + 2 + 2 + 2 + 2 + 2 + 2 + 2) n tt ee a5 c5 (xs ++ [y]) W) (by omega) _ (S2.out.low (by omega)) S2.out.hk S2.out.nk k1 k2 rfl hj0 (fun W g => ⟨_, (S2.out.old g).ho, fun v' w' o5 g5 => by obtain ⟨a5, c5, rfl⟩ := sliceOfRowW o5; exact ⟨a5, c5, rfl, ((S2.out.old g).push y o5 g5).2⟩⟩) _ _ ?_ ?_ ?_
          iterate 2 (· exact rfl)
          intro us W7 a5 c5 h7
          obtain ⟨a6, c6, e6, S7⟩ := h7
          have S7 := hid S7
          injection e6 with e61 e62 e63
          subst e61 e63
          simp only [putAll, Act.put, slotPr, List.range, List.range.loop, List.map_cons, List.map_nil, List.getD_cons_zero, List.getD_cons_succ, List.setIfInBounds_toArray, List.set_cons_succ, List.set_cons_zero]
          have e0 := S7.out.hk.c (i := 0) rfl
          have e1 := S7.out.hk.c (i := 1) rfl
          have e2 := S7.out.hk.c (i := 2) rfl
          have e3 := S7.out.hk.c (i := 3) rfl
          have r0 := S7.out.hr.c (i := 0) rfl
          have r1 := S7.out.hr.c (i := 1) rfl
          have r2 := S7.out.hr.c (i := 2) rfl
          have r3 := S7.out.hr.c (i := 3) rfl
          have t0 := frozen_of_row _ _ 0 _ _ S7.out.hr
          have t1 := frozen_of_row _ _ 1 _ _ S7.out.hr
          have t2 := frozen_of_row _ _ 2 _ _ S7.out.hr
          have t3 := frozen_of_row _ _ 3 _ _ S7.out.hr
          go_wp2_with fail
          have q0 := (bk_q3 (bk_q2 (bk_q1 (bk_q0 S7.out.hr (.int .i64 n)) (.int .i64 tt)) (.int .i64 ee)) (.slice a5 (j + 1) c5)).c (i := 0) rfl
          have q1 := (bk_q3 (bk_q2 (bk_q1 (bk_q0 S7.out.hr (.int .i64 n)) (.int .i64 tt)) (.int .i64 ee)) (.slice a5 (j + 1) c5)).c (i := 1) rfl
          have q2 := (bk_q3 (bk_q2 (bk_q1 (bk_q0 S7.out.hr (.int .i64 n)) (.int .i64 tt)) (.int .i64 ee)) (.slice a5 (j + 1) c5)).c (i := 2) rfl
          have q3 := (bk_q3 (bk_q2 (bk_q1 (bk_q0 S7.out.hr (.int .i64 n)) (.int .i64 tt)) (.int .i64 ee)) (.slice a5 (j + 1) c5)).c (i := 3) rfl
          refine bodyPost_ret (v := .agg #[.int .i64 n, .int .i64 tt, .int .i64 ee, .slice a5 (j + 1) c5]) (by simp [results, Tryz.results13, go_sem, q0, q1, q2, q3]) rfl ?_
          exact S7.out.ends (by omega) (fun x hx => by rcases List.mem_append.1 hx with h1 | h1; exact HX.out x h1; simp at h1; subst h1; exact hyb) (by omega)
        have dq3 : (u == 3) = false := by simpa using u3
        have e0 := S2.out.hk.c (i := 0) rfl
        have e1 := S2.out.hk.c (i := 1) rfl
        have e2 := S2.out.hk.c (i := 2) rfl
        have e3 := S2.out.hk.c (i := 3) rfl
        have r0 := S2.out.hr.c (i := 0) rfl
        have r1 := S2.out.hr.c (i := 1) rfl
        have r2 := S2.out.hr.c (i := 2) rfl
        have r3 := S2.out.hr.c (i := 3) rfl
        have t0 := frozen_of_row _ _ 0 _ _ S2.out.hr
        have t1 := frozen_of_row _ _ 1 _ _ S2.out.hr
        have t2 := frozen_of_row _ _ 2 _ _ S2.out.hr
        have t3 := frozen_of_row _ _ 3 _ _ S2.out.hr
        go_wp2_with fail
        have q0 := (bk_q3 (bk_q2 (bk_q1 (bk_q0 S2.out.hr (.int .i64 n)) (.int .i64 tt)) (.int .i64 ee)) (.slice (some ⟨ga, 0, none⟩) j cp)).c (i := 0) rfl
        have q1 := (bk_q3 (bk_q2 (bk_q1 (bk_q0 S2.out.hr (.int .i64 n)) (.int .i64 tt)) (.int .i64 ee)) (.slice (some ⟨ga, 0, none⟩) j cp)).c (i := 1) rfl
        have q2 := (bk_q3 (bk_q2 (bk_q1 (bk_q0 S2.out.hr (.int .i64 n)) (.int .i64 tt)) (.int .i64 ee)) (.slice (some ⟨ga, 0, none⟩) j cp)).c (i := 2) rfl
        have q3 := (bk_q3 (bk_q2 (bk_q1 (bk_q0 S2.out.hr (.int .i64 n)) (.int .i64 tt)) (.int .i64 ee)) (.slice (some ⟨ga, 0, none⟩) j cp)).c (i := 3) rfl
        refine bodyPost_ret (v := .agg #[.int .i64 n, .int .i64 tt, .int .i64 ee, .slice (some ⟨ga, 0, none⟩) j cp]) (by simp [results, Tryz.results13, go_sem, q0, q1, q2, q3]) rfl ?_
        exact S2.out.ends (by omega) HX.out (by omega)
      · have c8 := among_lit3 S8.out.hc (by omega) hl [257, 769, 353] (by decide) (by decide) 3
        go_wp2_with fail
        refine c8.mono ?_
        rintro e w17 ⟨⟨y0, hy0, rfl⟩, gq, Cq⟩
        have S3 := hid (S8.out.draw gq Cq)
        clear gq Cq c8 S8
        have hyb0 : PrB y0 := by simp at hy0; unfold PrB; omega
        have p0 := (S3.out.hk.old ((Old.refl w17).alloc (.cells #[.int .i64 y0] 3))).c (i := 3) rfl
        have p1 := frozen_of_row _ _ 3 _ _ (S3.out.hk.old ((Old.refl w17).alloc (.cells #[.int .i64 y0] 3)))
        have S9 := hid (S3.out.single y0)
        obtain ⟨ga, hga⟩ : ∃ ga, w17.heap.size = ga := ⟨_, rfl⟩
        obtain ⟨W9, hW9⟩ : ∃ W9, (w17.alloc (.cells #[.int .i64 y0] 3)).setCell ⟨kb, 3, none⟩ (.slice (some ⟨ga, 0, none⟩) 1 1) = W9 := ⟨_, rfl⟩
        rw [hga] at S9
        rw [hW9] at S9
        have HXX : Hid (∀ x ∈ [y0], PrB x) := fun x hx => by simp at hx; subst hx; exact hyb0
        clear S3 hy0 hyb0 HX
        have c7 := pick_c S9.out.hc (by omega) hl 60 (by omega) (by omega)
        go_wp2_with fail
        refine c7.mono ?_
        rintro e w15 ⟨⟨u, hu, rfl⟩, gq, Cq⟩
        have S2 := hid (S9.out.draw gq Cq)
        clear gq Cq c7 S9 hW9 hga p0 p1
        by_cases u0 : u = 0
        · subst u0
          have dq0 : ((0 : Int) == 0) = true := rfl
          have c8 := among_lit3 S2.out.hc (by omega) hl [1, 65536, 65537] (by decide) (by decide) 3
          go_wp2_with fail
          refine c8.mono ?_
          rintro e w17 ⟨⟨y, hy, rfl⟩, gq, Cq⟩
          have S3 := hid (S2.out.draw gq Cq)
          clear gq Cq c8 S2
          have p0 := S3.out.hk.c (i := 1) rfl
          have p1 := frozen_of_row _ _ 1 _ _ S3.out.hk
          have S4 := hid (S3.out.pT y)
          have e0 := S4.out.hk.c (i := 0) rfl
          have e1 := S4.out.hk.c (i := 1) rfl
          have e2 := S4.out.hk.c (i := 2) rfl
          have e3 := S4.out.hk.c (i := 3) rfl
          have r0 := S4.out.hr.c (i := 0) rfl
          have r1 := S4.out.hr.c (i := 1) rfl
          have r2 := S4.out.hr.c (i := 2) rfl
          have r3 := S4.out.hr.c (i := 3) rfl
          have t0 := frozen_of_row _ _ 0 _ _ S4.out.hr
          have t1 := frozen_of_row _ _ 1 _ _ S4.out.hr
          have t2 := frozen_of_row _ _ 2 _ _ S4.out.hr
          have t3 := frozen_of_row _ _ 3 _ _ S4.out.hr
          go_wp2_with fail
          have q0 := (bk_q3 (bk_q2 (bk_q1 (bk_q0 S4.out.hr (.int .i64 n)) (.int .i64 y)) (.int .i64 ee)) (.slice (some ⟨ga, 0, none⟩) 1 1)).c (i := 0) rfl
          have q1 := (bk_q3 (bk_q2 (bk_q1 (bk_q0 S4.out.hr (.int .i64 n)) (.int .i64 y)) (.int .i64 ee)) (.slice (some ⟨ga, 0, none⟩) 1 1)).c (i := 1) rfl
          have q2 := (bk_q3 (bk_q2 (bk_q1 (bk_q0 S4.out.hr (.int .i64 n)) (.int .i64 y)) (.int .i64 ee)) (.slice (some ⟨ga, 0, none⟩) 1 1)).c (i := 2) rfl
          have q3 := (bk_q3 (bk_q2 (bk_q1 (bk_q0 S4.out.hr (.int .i64 n)) (.int .i64 y)) (.int .i64 ee)) (.slice (some ⟨ga, 0, none⟩) 1 1)).c (i := 3) rfl
          refine bodyPost_ret (v := .agg #[.int .i64 n, .int .i64 y, .int .i64 ee, .slice (some ⟨ga, 0, none⟩) 1 1]) (by simp [results, Tryz.results13, go_sem, q0, q1, q2, q3]) rfl ?_
          exact S4.out.ends (by omega) HXX.out (by omega)
        have dq0 : (u == 0) = false := by simpa using u0
        by_cases u1 : u = 1
        · subst u1
          have dq1 : ((1 : Int) == 1) = true := rfl
          have dk0 : ((1 : Int) == 0) = false := rfl
          have c8 := among_lit3 S2.out.hc (by omega) hl [0, 16, 17] (by decide) (by decide) 3
          go_wp2_with fail
          refine c8.mono ?_
          rintro e w17 ⟨⟨y, hy, rfl⟩, gq, Cq⟩
          have S3 := hid (S2.out.draw gq Cq)
          clear gq Cq c8 S2
          have p0 := S3.out.hk.c (i := 2) rfl
          have p1 := frozen_of_row _ _ 2 _ _ S3.out.hk
          have S4 := hid (S3.out.pE y)
          have e0 := S4.out.hk.c (i := 0) rfl
          have e1 := S4.out.hk.c (i := 1) rfl
          have e2 := S4.out.hk.c (i := 2) rfl
          have e3 := S4.out.hk.c (i := 3) rfl
          have r0 := S4.out.hr.c (i := 0) rfl
          have r1 := S4.out.hr.c (i := 1) rfl
          have r2 := S4.out.hr.c (i := 2) rfl
          have r3 := S4.out.hr.c (i := 3) rfl
          have t0 := frozen_of_row _ _ 0 _ _ S4.out.hr
          have t1 := frozen_of_row _ _ 1 _ _ S4.out.hr
          have t2 := frozen_of_row _ _ 2 _ _ S4.out.hr
          have t3 := frozen_of_row _ _ 3 _ _ S4.out.hr
          go_wp2_with fail
          have q0 := (bk_q3 (bk_q2 (bk_q1 (bk_q0 S4.out.hr (.int .i64 n)) (.int .i64 tt)) (.int .i64 y)) (.slice (some ⟨ga, 0, none⟩) 1 1)).c (i := 0) rfl
          have q1 := (bk_q3 (bk_q2 (bk_q1 (bk_q0 S4.out.hr (.int .i64 n)) (.int .i64 tt)) (.int .i64 y)) (.slice (some ⟨ga, 0, none⟩) 1 1)).c (i := 1) rfl
          have q2 := (bk_q3 (bk_q2 (bk_q1 (bk_q0 S4.out.hr (.int .i64 n)) (.int .i64 tt)) (.int .i64 y)) (.slice (some ⟨ga, 0, none⟩) 1 1)).c (i := 2) rfl
          have q3 := (bk_q3 (bk_q2 (bk_q1 (bk_q0 S4.out.hr (.int .i64 n)) (.int .i64 tt)) (.int .i64 y)) (.slice (some ⟨ga, 0, none⟩) 1 1)).c (i := 3) rfl
          refine bodyPost_ret (v := .agg #[.int .i64 n, .int .i64 tt, .int .i64 y, .slice (some ⟨ga, 0, none⟩) 1 1]) (by simp [results, Tryz.results13, go_sem, q0, q1, q2, q3]) rfl ?_
          exact S4.out.ends (by omega) HXX.out (by omega)
        have dq1 : (u == 1) = false := by simpa using u1
        by_cases u2 : u = 2
        · subst u2
          have dq2 : ((2 : Int) == 2) = true := rfl
          have dk0 : ((2 : Int) == 0) = false := rfl
          have dk1 : ((2 : Int) == 1) = false := rfl
          have c8 := among_lit3 S2.out.hc (by omega) hl [1, 3, 32] (by decide) (by decide) 3
          go_wp2_with fail
          refine c8.mono ?_
          rintro e w17 ⟨⟨y, hy, rfl⟩, gq, Cq⟩
          have S3 := hid (S2.out.draw gq Cq)
          clear gq Cq c8 S2
          have p0 := S3.out.hk.c (i := 0) rfl
          have p1 := frozen_of_row _ _ 0 _ _ S3.out.hk
          have S4 := hid (S3.out.pN y)
          have e0 := S4.out.hk.c (i := 0) rfl
          have e1 := S4.out.hk.c (i := 1) rfl
          have e2 := S4.out.hk.c (i := 2) rfl
          have e3 := S4.out.hk.c (i := 3) rfl
          have r0 := S4.out.hr.c (i := 0) rfl
          have r1 := S4.out.hr.c (i := 1) rfl
          have r2 := S4.out.hr.c (i := 2) rfl
          have r3 := S4.out.hr.c (i := 3) rfl
          have t0 := frozen_of_row _ _ 0 _ _ S4.out.hr
          have t1 := frozen_of_row _ _ 1 _ _ S4.out.hr
          have t2 := frozen_of_row _ _ 2 _ _ S4.out.hr
          have t3 := frozen_of_row _ _ 3 _ _ S4.out.hr
          go_wp2_with fail
          have q0 := (bk_q3 (bk_q2 (bk_q1 (bk_q0 S4.out.hr (.int .i64 y)) (.int .i64 tt)) (.int .i64 ee)) (.slice (some ⟨ga, 0, none⟩) 1 1)).c (i := 0) rfl
          have q1 := (bk_q3 (bk_q2 (bk_q1 (bk_q0 S4.out.hr (.int .i64 y)) (.int .i64 tt)) (.int .i64 ee)) (.slice (some ⟨ga, 0, none⟩) 1 1)).c (i := 1) rfl
          have q2 := (bk_q3 (bk_q2 (bk_q1 (bk_q0 S4.out.hr (.int .i64 y)) (.int .i64 tt)) (.int .i64 ee)) (.slice (some ⟨ga, 0, none⟩) 1 1)).c (i := 2) rfl
          have q3 := (bk_q3 (bk_q2 (bk_q1 (bk_q0 S4.out.hr (.int .i64 y)) (.int .i64 tt)) (.int .i64 ee)) (.slice (some ⟨ga, 0, none⟩) 1 1)).c (i := 3) rfl
          refine bodyPost_ret (v := .agg #[.int .i64 y, .int .i64 tt, .int .i64 ee, .slice (some ⟨ga, 0, none⟩) 1 1]) (by simp [results, Tryz.results13, go_sem, q0, q1, q2, q3]) rfl ?_
          exact S4.out.ends (by omega) HXX.out (by omega)
        have dq2 : (u == 2) = false := by simpa using u2
        by_cases u3 : u = 3
        · subst u3
          have dq3 : ((3 : Int) == 3) = true := rfl
          have dk0 : ((3 : Int) == 0) = false := rfl
          have dk1 : ((3 : Int) == 1) = false := rfl
          have dk2 : ((3 : Int) == 2) = false := rfl
          have hj0 : (0 : Int) < ((1 : Nat) : Int) := by omega
          have hj1 : 0 < 1 := by omega
          have k2 := (S2.out.cell 0 hj1).1
          have hxl := S2.out.hl
          have hyb := HXX.out ([y0].getD 0 0) (by simp [List.getD, show 0 < [y0].length by omega])
          obtain ⟨y, hy⟩ : ∃ y, [y0].getD 0 0 = y := ⟨_, rfl⟩
          rw [hy] at k2 hyb
          clear hy hxl
          have k1 := S2.out.hk.c (i := 3) rfl
          go_wp2_with fail
          refine reg_Pr w15 kb n tt ee (some ⟨ga, 0, none⟩) 1 1 y ga (fun W v => ∃ a5 c5, v = .slice a5 (1 + 1) c5 ∧ PSt w code len c kb ga (1 + 1) (B + 2 + 2 + 2 + 2 + 2 + 2 + 2 + 2) n tt ee a5 c5 ([y0] ++ [y]) W) (by omega) _ (S2.out.low (by omega)) S2.out.hk S2.out.nk k1 k2 rfl hj0 (fun W g => ⟨_, (S2.out.old g).ho, fun v' w' o5 g5 => by obtain ⟨a5, c5, rfl⟩ := sliceOfRowW o5; exact ⟨a5, c5, rfl, ((S2.out.old g).push y o5 g5).2⟩⟩) _ _ ?_ ?_ ?_
          iterate 2 (· exact rfl)
          intro us W7 a5 c5 h7
          obtain ⟨a6, c6, e6, S7⟩ := h7
          have S7 := hid S7
          injection e6 with e61 e62 e63
          subst e61 e63
          simp only [putAll, Act.put, slotPr, List.range, List.range.loop, List.map_cons, List.map_nil, List.getD_cons_zero, List.getD_cons_succ, List.setIfInBounds_toArray, List.set_cons_succ, List.set_cons_zero]
          have e0 := S7.out.hk.c (i := 0) rfl
          have e1 := S7.out.hk.c (i := 1) rfl
          have e2 := S7.out.hk.c (i := 2) rfl
          have e3 := S7.out.hk.c (i := 3) rfl
          have r0 := S7.out.hr.c (i := 0) rfl
          have r1 := S7.out.hr.c (i := 1) rfl
          have r2 := S7.out.hr.c (i := 2) rfl
          have r3 := S7.out.hr.c (i := 3) rfl
          have t0 := frozen_of_row _ _ 0 _ _ S7.out.hr
          have t1 := frozen_of_row _ _ 1 _ _ S7.out.hr
          have t2 := frozen_of_row _ _ 2 _ _ S7.out.hr
          have t3 := frozen_of_row _ _ 3 _ _ S7.out.hr
          go_wp2_with fail
          have q0 := (bk_q3 (bk_q2 (bk_q1 (bk_q0 S7.out.hr (.int .i64 n)) (.int .i64 tt)) (.int .i64 ee)) (.slice a5 (1 + 1) c5)).c (i := 0) rfl
          have q1 := (bk_q3 (bk_q2 (bk_q1 (bk_q0 S7.out.hr (.int .i64 n)) (.int .i64 tt)) (.int .i64 ee)) (.slice a5 (1 + 1) c5)).c (i := 1) rfl
          have q2 := (bk_q3 (bk_q2 (bk_q1 (bk_q0 S7.out.hr (.int .i64 n)) (.int .i64 tt)) (.int .i64 ee)) (.slice a5 (1 + 1) c5)).c (i := 2) rfl
          have q3 := (bk_q3 (bk_q2 (bk_q1 (bk_q0 S7.out.hr (.int .i64 n)) (.int .i64 tt)) (.int .i64 ee)) (.slice a5 (1 + 1) c5)).c (i := 3) rfl
          refine bodyPost_ret (v := .agg #[.int .i64 n, .int .i64 tt, .int .i64 ee, .slice a5 (1 + 1) c5]) (by simp [results, Tryz.results13, go_sem, q0, q1, q2, q3]) rfl ?_
          exact S7.out.ends (by omega) (fun x hx => by rcases List.mem_append.1 hx with h1 | h1; exact HXX.out x h1; simp at h1; subst h1; exact hyb) (by omega)
        have dq3 : (u == 3) = false := by simpa using u3
        have e0 := S2.out.hk.c (i := 0) rfl
        have e1 := S2.out.hk.c (i := 1) rfl
        have e2 := S2.out.hk.c (i := 2) rfl
        have e3 := S2.out.hk.c (i := 3) rfl
        have r0 := S2.out.hr.c (i := 0) rfl
        have r1 := S2.out.hr.c (i := 1) rfl
        have r2 := S2.out.hr.c (i := 2) rfl
        have r3 := S2.out.hr.c (i := 3) rfl
        have t0 := frozen_of_row _ _ 0 _ _ S2.out.hr
        have t1 := frozen_of_row _ _ 1 _ _ S2.out.hr
        have t2 := frozen_of_row _ _ 2 _ _ S2.out.hr
        have t3 := frozen_of_row _ _ 3 _ _ S2.out.hr
        go_wp2_with fail
        have q0 := (bk_q3 (bk_q2 (bk_q1 (bk_q0 S2.out.hr (.int .i64 n)) (.int .i64 tt)) (.int .i64 ee)) (.slice (some ⟨ga, 0, none⟩) 1 1)).c (i := 0) rfl
        have q1 := (bk_q3 (bk_q2 (bk_q1 (bk_q0 S2.out.hr (.int .i64 n)) (.int .i64 tt)) (.int .i64 ee)) (.slice (some ⟨ga, 0, none⟩) 1 1)).c (i := 1) rfl
        have q2 := (bk_q3 (bk_q2 (bk_q1 (bk_q0 S2.out.hr (.int .i64 n)) (.int .i64 tt)) (.int .i64 ee)) (.slice (some ⟨ga, 0, none⟩) 1 1)).c (i := 2) rfl
        have q3 := (bk_q3 (bk_q2 (bk_q1 (bk_q0 S2.out.hr (.int .i64 n)) (.int .i64 tt)) (.int .i64 ee)) (.slice (some ⟨ga, 0, none⟩) 1 1)).c (i := 3) rfl
        refine bodyPost_ret (v := .agg #[.int .i64 n, .int .i64 tt, .int .i64 ee, .slice (some ⟨ga, 0, none⟩) 1 1]) (by simp [results, Tryz.results13, go_sem, q0, q1, q2, q3]) rfl ?_
        exact S2.out.ends (by omega) HXX.out (by omega)
end Go.Proofs.YtihjndakgncdaaaGreatDoor
/- Proved: the contract of DrawDepthOf: params with three numbers and one to four primes. -/
namespace Go.Proofs.YtihjndakgncdaaaGreatDoor
open Go.ChangeShapes Go.WideShapes Go.ChangeAt Go.RowKit
set_option linter.unusedVariables false
set_option linter.unusedSimpArgs false
def PmR (w : World) (e : Ending) (w' : World) : Prop := ∃ N T E a cp xs, e = .returned (.agg #[.int .i64 N, .int .i64 T, .int .i64 E, .slice a xs.length cp]) ∧ Old w w' ∧ (1 ≤ xs.length ∧ xs.length ≤ 4) ∧ (∀ x ∈ xs, PrB x) ∧ Row w' (.slice a xs.length cp) xs ∧ xs.length ≤ cp
theorem own_fitP {W : World} {base : Nat} {v : Value} {zs : List Int} (h : Own W base v zs) : ∃ ra rc, v = .slice ra zs.length rc ∧ zs.length ≤ rc := by
  rcases h.2 with ⟨h1, h2⟩ | ⟨g, cap, cur, e, hb, hc, hle, _⟩
  · exact ⟨none, 0, by rw [h1, h2], by omega⟩
  · exact ⟨_, _, e, by omega⟩
structure DpS (w : World) (code : Value) (len c kb B : Nat) (N T E : Int) (a : Option Addr) (n cp : Nat) (xs : List Int) (W : World) : Prop where
  old : Old w W
  hc : Cu W code len c B
  hk : Bk W kb #[.int .i64 N, .int .i64 T, .int .i64 E, .slice a n cp] 25
  hr : Bk W w.heap.size #[.int .i64 0, .int .i64 0, .int .i64 0, .slice none 0 0] 25
  row : Row W (.slice a n cp) xs
  far : ∀ b o m cc, Value.slice a n cp = .slice (some ⟨b, o, none⟩) m cc → w.heap.size < b ∧ b ≠ c ∧ b ≠ kb
  hl : xs.length = n
  h1 : w.heap.size < c
  h2 : c < kb
theorem DpS.draw {w W W' : World} {code : Value} {len c kb B B' n cp : Nat} {N T E : Int} {a : Option Addr} {xs : List Int} (h : DpS w code len c kb B N T E a n cp xs W) (g : Chg W W' c (c + 1)) (C : Cu W' code len c B') : DpS w code len c kb B' N T E a n cp xs W' :=
  ⟨Old.chg h.old g (by have := h.h1; omega), C, h.hk.chg g (Or.inr (by have := h.h2; omega)), h.hr.chg g (Or.inl h.h1), h.row.chg g (fun b o m cc e => by have := (h.far b o m cc e).2.1; omega), h.far, h.hl, h.h1, h.h2⟩
theorem row_cellP {W : World} {v : Value} {xs : List Int} (h : Row W v xs) {k : Nat} (hb : ∀ b o n c, v = .slice (some ⟨b, o, none⟩) n c → b ≠ k) (i : Nat) (x : Value) : Row (W.setCell ⟨k, i, none⟩ x) v xs := by
  rcases h with hr | ⟨b, o, cap, e, hlt, h0, hc⟩
  · exact .inl hr
  · refine .inr ⟨b, o, cap, e, by rw [World.size_setCell]; exact hlt, h0, fun j hj => ?_⟩
    rw [← hc j hj]
    exact World.cell?_of_block (heap_setCell_other W ⟨k, i, none⟩ b _ (hb b o _ cap e))
theorem DpS.pT {w W : World} {code : Value} {len c kb B n cp : Nat} {N T E : Int} {a : Option Addr} {xs : List Int} (h : DpS w code len c kb B N T E a n cp xs W) (y : Int) : DpS w code len c kb B N y E a n cp xs (W.setCell ⟨kb, 1, none⟩ (.int .i64 y)) := by
  have := h.h1
  have := h.h2
  exact ⟨h.old.own (p := ⟨kb, 1, none⟩) (by show w.heap.size ≤ kb; omega) _, cu_own h.hc (by show c < kb; omega) _, bk_q1 h.hk _, bk_other h.hr (by show w.heap.size ≠ kb; omega) _, row_cellP h.row (fun b o m cc e => (h.far b o m cc e).2.2) 1 _, h.far, h.hl, h.h1, h.h2⟩
theorem DpS.pN {w W : World} {code : Value} {len c kb B n cp : Nat} {N T E : Int} {a : Option Addr} {xs : List Int} (h : DpS w code len c kb B N T E a n cp xs W) (y : Int) : DpS w code len c kb B y T E a n cp xs (W.setCell ⟨kb, 0, none⟩ (.int .i64 y)) := by
  have := h.h1
  have := h.h2
  exact ⟨h.old.own (p := ⟨kb, 0, none⟩) (by show w.heap.size ≤ kb; omega) _, cu_own h.hc (by show c < kb; omega) _, bk_q0 h.hk _, bk_other h.hr (by show w.heap.size ≠ kb; omega) _, row_cellP h.row (fun b o m cc e => (h.far b o m cc e).2.2) 0 _, h.far, h.hl, h.h1, h.h2⟩
theorem DpS.pS {w W : World} {code : Value} {len c kb B n cp : Nat} {N T E : Int} {a : Option Addr} {xs : List Int} (h : DpS w code len c kb B N T E a n cp xs W) {a' : Option Addr} {n' cp' : Nat} {ys : List Int} (hr : Row W (.slice a' n' cp') ys) (hf : ∀ b o m cc, Value.slice a' n' cp' = .slice (some ⟨b, o, none⟩) m cc → w.heap.size < b ∧ b ≠ c ∧ b ≠ kb) (hl : ys.length = n') : DpS w code len c kb B N T E a' n' cp' ys (W.setCell ⟨kb, 3, none⟩ (.slice a' n' cp')) := by
  have := h.h1
  have := h.h2
  exact ⟨h.old.own (p := ⟨kb, 3, none⟩) (by show w.heap.size ≤ kb; omega) _, cu_own h.hc (by show c < kb; omega) _, bk_q3 h.hk _, bk_other h.hr (by show w.heap.size ≠ kb; omega) _, row_cellP hr (fun b o m cc e => (hf b o m cc e).2.2) 3 _, hf, hl, h.h1, h.h2⟩
theorem DpS.ends {w W : World} {code : Value} {len c kb B n cp : Nat} {N T E : Int} {a : Option Addr} {xs : List Int} (h : DpS w code len c kb B N T E a n cp xs W) (hx1 : 1 ≤ n ∧ n ≤ 4) (hx2 : ∀ x ∈ xs, PrB x) (hcp : n ≤ cp) : PmR w (.returned (.agg #[.int .i64 N, .int .i64 T, .int .i64 E, .slice a n cp])) ((((W.setCell ⟨w.heap.size, 0, none⟩ (.int .i64 N)).setCell ⟨w.heap.size, 1, none⟩ (.int .i64 T)).setCell ⟨w.heap.size, 2, none⟩ (.int .i64 E)).setCell ⟨w.heap.size, 3, none⟩ (.slice a n cp)) := by
  have ne : ∀ b o m cc, Value.slice a n cp = .slice (some ⟨b, o, none⟩) m cc → b ≠ w.heap.size := fun b o m cc e => by
    have := (h.far b o m cc e).1
    omega
  have o0 := h.old.own (p := ⟨w.heap.size, 0, none⟩) (Nat.le_refl _) (.int .i64 N)
  have o1 := o0.own (p := ⟨w.heap.size, 1, none⟩) (Nat.le_refl _) (.int .i64 T)
  have o2 := o1.own (p := ⟨w.heap.size, 2, none⟩) (Nat.le_refl _) (.int .i64 E)
  have o3 := o2.own (p := ⟨w.heap.size, 3, none⟩) (Nat.le_refl _) (.slice a n cp)
  have r3 := row_cellP (row_cellP (row_cellP (row_cellP h.row ne 0 (.int .i64 N)) ne 1 (.int .i64 T)) ne 2 (.int .i64 E)) ne 3 (.slice a n cp)
  have e := h.hl
  subst e
  exact ⟨N, T, E, a, cp, xs, rfl, o3, hx1, hx2, r3, hcp⟩
set_option maxRecDepth 100000 in
set_option maxHeartbeats 8000000 in
theorem drawDepth_c (w : World) (code : Value) (len : Nat) (h : BysW w code len) (hl : len ≤ 1048576) :
    Calls Tryz.prog 4 #[code] w (PmR w) := by
  obtain ⟨ca0, ccap, hcode⟩ : ∃ ca ccap, code = .slice ca len ccap := by
    rcases h with ⟨a, cap, e, e2⟩ | ⟨b, o, cap, e, _⟩
    · exact ⟨a, cap, by rw [e, e2]⟩
    · exact ⟨_, cap, e⟩
  subst hcode
  have HA : Hid (Old w (w.alloc (.cells #[.int .i64 0, .int .i64 0, .int .i64 0, .slice none 0 0] 25))) := (Old.refl w).alloc _
  have C0 := Cu.new (bysW_oldX h HA.out)
  have BR : Hid (Bk (w.alloc (.cells #[.int .i64 0, .int .i64 0, .int .i64 0, .slice none 0 0] 25)) w.heap.size #[.int .i64 0, .int .i64 0, .int .i64 0, .slice none 0 0] 25) := Bk.new' w _ _ rfl
  obtain ⟨W0, hW0⟩ : ∃ W0, w.alloc (.cells #[.int .i64 0, .int .i64 0, .int .i64 0, .slice none 0 0] 25) = W0 := ⟨_, rfl⟩
  rw [hW0] at HA C0 BR
  obtain ⟨c, hc⟩ : ∃ c, W0.heap.size = c := ⟨_, rfl⟩
  have hwc : w.heap.size < c := hc ▸ BR.out.lt
  obtain ⟨W1, hW1⟩ : ∃ W1, W0.alloc (.cells #[.slice ca0 len ccap, .int .i64 0, .int .u64 0] 41) = W1 := ⟨_, rfl⟩
  rw [hW1, hc] at C0
  have hc1 : c < W1.heap.size := C0.lt
  have HB : Hid (Old w W1) := hW1 ▸ HA.out.alloc _
  have BR1 : Hid (Bk W1 w.heap.size #[.int .i64 0, .int .i64 0, .int .i64 0, .slice none 0 0] 25) := hW1 ▸ BR.out.alloc _
  have hll : len ≤ 9223372036854775807 := by omega
  have K1 := params_c C0 (by omega) hll
  clear h HA BR C0
  go_enter Tryz.func4, Tryz.ntmps4
  go_wp2_with fail
  refine K1.mono ?_
  rintro e w2 ⟨N, T, E, a, cp, xs, rfl, hx1, hx2, g2, C2, o2⟩
  have HX1 := hid hx1
  have HX2 := hid hx2
  obtain ⟨n, hn⟩ : ∃ n, xs.length = n := ⟨_, rfl⟩
  have hxn : 1 ≤ n ∧ n ≤ 4 := hn ▸ hx1
  obtain ⟨ra, rc, ef, hcp⟩ := own_fitP o2
  have hcp' : n ≤ cp := by
    injection ef with e1 e2 e3
    omega
  have S2 : Hid (DpS w (.slice ca0 len ccap) len c w2.heap.size (0 + 1000) N T E a n cp xs (w2.alloc (.cells #[.int .i64 N, .int .i64 T, .int .i64 E, .slice a n cp] 25))) := by
    have oO : Old w2 (w2.alloc (.cells #[.int .i64 N, .int .i64 T, .int .i64 E, .slice a n cp] 25)) := (Old.refl w2).alloc _
    rw [hn] at o2
    refine ⟨(Old.chg HB.out g2 (by omega)).alloc _, C2.old oO, Bk.new' w2 _ _ rfl, (BR1.out.chg g2 (Or.inl hwc)).old oO, (Own.row o2).old oO, fun b o m cc e => ?_, hn, hwc, Nat.lt_of_lt_of_le hc1 g2.size⟩
    have := (o2.lt b (by rw [e]; rfl)).1
    have := (o2.lt b (by rw [e]; rfl)).2
    omega
  obtain ⟨W3, hW3⟩ : ∃ W3, w2.alloc (.cells #[.int .i64 N, .int .i64 T, .int .i64 E, .slice a n cp] 25) = W3 := ⟨_, rfl⟩
  rw [hW3] at S2
  obtain ⟨kb, hkb⟩ : ∃ kb, w2.heap.size = kb := ⟨_, rfl⟩
  rw [hkb] at S2
  clear hx1 hx2 g2 C2 o2 ef hcp BR1 HB hW1 hW0 hc K1 HX1
  have c3 := one_c S2.out.hc (by omega) hll 2 (by omega) (by omega)
  go_wp2_with fail
  refine c3.mono ?_
  rintro e w4 ⟨⟨ob, rfl⟩, gq, Cq⟩
  have S4 := hid (S2.out.draw gq Cq)
  clear gq Cq c3 S2 hW3 hkb
  cases ob
  · have e0 := S4.out.hk.c (i := 0) rfl
    have e1 := S4.out.hk.c (i := 1) rfl
    have e2 := S4.out.hk.c (i := 2) rfl
    have e3 := S4.out.hk.c (i := 3) rfl
    have r0 := S4.out.hr.c (i := 0) rfl
    have r1 := S4.out.hr.c (i := 1) rfl
    have r2 := S4.out.hr.c (i := 2) rfl
    have r3 := S4.out.hr.c (i := 3) rfl
    have t0 := frozen_of_row _ _ 0 _ _ S4.out.hr
    have t1 := frozen_of_row _ _ 1 _ _ S4.out.hr
    have t2 := frozen_of_row _ _ 2 _ _ S4.out.hr
    have t3 := frozen_of_row _ _ 3 _ _ S4.out.hr
    go_wp2_with fail
    have q0 := (bk_q3 (bk_q2 (bk_q1 (bk_q0 S4.out.hr (.int .i64 N)) (.int .i64 T)) (.int .i64 E)) (.slice a n cp)).c (i := 0) rfl
    have q1 := (bk_q3 (bk_q2 (bk_q1 (bk_q0 S4.out.hr (.int .i64 N)) (.int .i64 T)) (.int .i64 E)) (.slice a n cp)).c (i := 1) rfl
    have q2 := (bk_q3 (bk_q2 (bk_q1 (bk_q0 S4.out.hr (.int .i64 N)) (.int .i64 T)) (.int .i64 E)) (.slice a n cp)).c (i := 2) rfl
    have q3 := (bk_q3 (bk_q2 (bk_q1 (bk_q0 S4.out.hr (.int .i64 N)) (.int .i64 T)) (.int .i64 E)) (.slice a n cp)).c (i := 3) rfl
    refine bodyPost_ret (v := .agg #[.int .i64 N, .int .i64 T, .int .i64 E, .slice a n cp]) (by simp [results, Tryz.results4, go_sem, q0, q1, q2, q3]) rfl ?_
    exact S4.out.ends (by omega) HX2.out hcp'
  · go_wp2_with fail
    refine (primes_c _).mono ?_
    rintro e w5 ⟨rfl, hw5⟩
    have g5 : Old w4 w5 := by rw [hw5]; exact (Old.refl w4).alloc _
    have r5 : Row w5 (.slice (some ⟨w4.heap.size, 0, none⟩) 4 10) [268435361, 268435009, 268434977, 268434721] := .inr ⟨w4.heap.size, 0, 10, rfl, by rw [hw5]; simp, by decide, fun j hj => by
        rw [hw5, cell_at _ _ _ _ _ rfl]
        match j, hj with
        | 0, _ => rfl
        | 1, _ => rfl
        | 2, _ => rfl
        | 3, _ => rfl
        | j + 4, h => simp at h; omega⟩
    have hwc5 : c < w4.heap.size := S4.out.hc.lt
    have hwk5 := S4.out.hk.lt
    have hw15 := S4.out.h1
    have S5 : Hid (DpS w (.slice ca0 len ccap) len c kb (0 + 1000 + 2) N T E a n cp xs w5) := hid (S4.out.draw (g5.toChg _ _) (S4.out.hc.old g5))
    have S6 := hid (S5.out.pS r5 (fun b o m cc e => by injection e with e1; injection e1 with e2; injection e2 with e3; omega) rfl)
    have k3 := S5.out.hk.c (i := 3) rfl
    have f3 := frozen_of_row _ _ 3 _ _ S5.out.hk
    obtain ⟨ga, hga⟩ : ∃ ga, w4.heap.size = ga := ⟨_, rfl⟩
    rw [hga] at S6
    obtain ⟨W6, hW6⟩ : ∃ W6, w5.setCell ⟨kb, 3, none⟩ (.slice (some ⟨ga, 0, none⟩) 4 10) = W6 := ⟨_, rfl⟩
    rw [hW6] at S6
    clear S4 S5 r5 g5 hw5
    have c7 := among_lit3 S6.out.hc (by omega) hll [2, 17] (by decide) (by decide) 3
    go_wp2_with fail
    refine c7.mono ?_
    rintro e w7 ⟨⟨tq, ht1, rfl⟩, gq, Cq⟩
    have S7 := hid (S6.out.draw gq Cq)
    clear gq Cq c7 S6 hW6 hga k3 f3
    have k1 := S7.out.hk.c (i := 1) rfl
    have f1 := frozen_of_row _ _ 1 _ _ S7.out.hk
    have S8 := hid (S7.out.pT tq)
    obtain ⟨W8, hW8⟩ : ∃ W8, w7.setCell ⟨kb, 1, none⟩ (.int .i64 tq) = W8 := ⟨_, rfl⟩
    rw [hW8] at S8
    clear S7
    have c9 := among_lit3 S8.out.hc (by omega) hll [2, 4, 8] (by decide) (by decide) 3
    go_wp2_with fail
    refine c9.mono ?_
    rintro e w9 ⟨⟨nq, hn1, rfl⟩, gq, Cq⟩
    have S9 := hid (S8.out.draw gq Cq)
    clear gq Cq c9 S8 hW8 k1 f1
    have k0 := S9.out.hk.c (i := 0) rfl
    have f0 := frozen_of_row _ _ 0 _ _ S9.out.hk
    have S1 := hid (S9.out.pN nq)
    obtain ⟨W2, hW2⟩ : ∃ W2, w9.setCell ⟨kb, 0, none⟩ (.int .i64 nq) = W2 := ⟨_, rfl⟩
    rw [hW2] at S1
    clear S9
    have e0 := S1.out.hk.c (i := 0) rfl
    have e1 := S1.out.hk.c (i := 1) rfl
    have e2 := S1.out.hk.c (i := 2) rfl
    have e3 := S1.out.hk.c (i := 3) rfl
    have r0 := S1.out.hr.c (i := 0) rfl
    have r1 := S1.out.hr.c (i := 1) rfl
    have r2 := S1.out.hr.c (i := 2) rfl
    have r3 := S1.out.hr.c (i := 3) rfl
    have t0 := frozen_of_row _ _ 0 _ _ S1.out.hr
    have t1 := frozen_of_row _ _ 1 _ _ S1.out.hr
    have t2 := frozen_of_row _ _ 2 _ _ S1.out.hr
    have t3 := frozen_of_row _ _ 3 _ _ S1.out.hr
    go_wp2_with fail
    have q0 := (bk_q3 (bk_q2 (bk_q1 (bk_q0 S1.out.hr (.int .i64 nq)) (.int .i64 tq)) (.int .i64 E)) (.slice (some ⟨ga, 0, none⟩) 4 10)).c (i := 0) rfl
    have q1 := (bk_q3 (bk_q2 (bk_q1 (bk_q0 S1.out.hr (.int .i64 nq)) (.int .i64 tq)) (.int .i64 E)) (.slice (some ⟨ga, 0, none⟩) 4 10)).c (i := 1) rfl
    have q2 := (bk_q3 (bk_q2 (bk_q1 (bk_q0 S1.out.hr (.int .i64 nq)) (.int .i64 tq)) (.int .i64 E)) (.slice (some ⟨ga, 0, none⟩) 4 10)).c (i := 2) rfl
    have q3 := (bk_q3 (bk_q2 (bk_q1 (bk_q0 S1.out.hr (.int .i64 nq)) (.int .i64 tq)) (.int .i64 E)) (.slice (some ⟨ga, 0, none⟩) 4 10)).c (i := 3) rfl
    refine bodyPost_ret (v := .agg #[.int .i64 nq, .int .i64 tq, .int .i64 E, .slice (some ⟨ga, 0, none⟩) 4 10]) (by simp [results, Tryz.results4, go_sem, q0, q1, q2, q3]) rfl ?_
    exact S1.out.ends (by omega) (fun x hx => by simp at hx; unfold PrB; omega) (by omega)
end Go.Proofs.YtihjndakgncdaaaGreatDoor
