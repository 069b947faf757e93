/- Proved: the contract of the draw of a whole number: some sign and at most 41 numbers are told, nothing panics, and nothing that was there changes but the cursor. -/
import Derived.Test.YtfcdfielbpdloaaGreatDoorDcu
import Derived.Deep.RegionHeld3
import Derived.Deep.DeepCutAuto
import Derived.Deep.CutRange
namespace Go.Proofs.YtfcdfielbpdloaaGreatDoor
open Go.ChangeShapes Go.WideShapes Go.ChangeAt Go.RowKit
set_option linter.unusedVariables false
set_option linter.unusedSimpArgs false
def CuWh (w : World) (code : Value) (len c B : Nat) (e : Ending) (w' : World) : Prop :=
  ∃ n a cp xs, e = .returned (.agg #[.bool n, .slice a xs.length cp]) ∧ xs.length ≤ 41 ∧ Chg w w' c (c + 1) ∧ Cu w' code len c B ∧ Own w' w.heap.size (.slice a xs.length cp) xs
theorem bk_grownW {w w' : World} {k : Nat} {cs : Array Value} {t : TypeId} {ob : Option Nat} (h : Bk w k cs t) (g : w.grownBy w' ob) (hk : ∀ j, ob = some j → k < j) : Bk w' k cs t :=
  (g.block k h.lt (fun e => by have := hk k e.symm; omega)).trans h
theorem lit1CW (w : World) (x : Value) (t : TypeId) : ∀ j u, [x][j]? = some u → (w.alloc (.cells #[x] t)).cell? ((⟨w.heap.size, 0, none⟩ : Addr).add j) = some u := by
  intro j u h
  match j, h with
  | 0, h =>
    have : x = u := by simpa using h
    subst this
    exact cell_at w _ _ _ _ rfl
  | j + 1, h => simp at h
theorem lit1OW (x : Int) : ∀ u ∈ [Value.int .i64 x], u.oneCell' = true := by simp [Value.oneCell']
theorem sliceOfRowW {w : World} {base n : Nat} {v : Value} {cs : List Value} (h : w.ownsRow base 3 1 v n cs) : ∃ a c, v = .slice a n c := by
  rcases h.2 with ⟨h1, h2⟩ | ⟨g, cap, cur, h1, _⟩
  · exact ⟨none, 0, by rw [h1, h2]⟩
  · exact ⟨_, cap, h1⟩
theorem u64_ofW (x : Int) : ∃ X : Int, (0 ≤ X ∧ X ≤ 18446744073709551615) ∧ IntKind.u64.wrap x = X := by
  refine ⟨_, ?_, rfl⟩
  simp only [IntKind.wrap_u64]
  omega
theorem bk_put0W {w : World} {k : Nat} {x y : Value} {t : TypeId} (h : Bk w k #[x, y] t) (x' : Value) : Bk (w.setCell ⟨k, 0, none⟩ x') k #[x', y] t := (heap_setCell_same w k 0 _ _ x' h).trans rfl
theorem bk_put1W {w : World} {k : Nat} {x y : Value} {t : TypeId} (h : Bk w k #[x, y] t) (y' : Value) : Bk (w.setCell ⟨k, 1, none⟩ y') k #[x, y'] t := (heap_setCell_same w k 1 _ _ y' h).trans rfl
theorem row_far {w w' : World} {base n : Nat} {v : Value} {cs : List Value} (h : w.ownsRow base 3 1 v n cs) (hf : ∀ b, base ≤ b → b < w.heap.size → w'.heap[b]? = w.heap[b]?) : w'.ownsRow base 3 1 v n cs := by
  refine ⟨h.1, ?_⟩
  rcases h.2 with hn | ⟨p, cap, cur, rfl, hb, hgg, rest⟩
  · exact .inl hn
  · exact .inr ⟨p, cap, cur, rfl, hb, (hf p hb (Array.getElem?_eq_some_iff.1 hgg).1).trans hgg, rest⟩
theorem hid {P : Prop} (h : P) : Hid P := h
structure WSt (w : World) (code : Value) (len c kb n B : Nat) (nb : Bool) (a : Option Addr) (cp : Nat) (xs : List Int) (W : World) : Prop where
  hl : xs.length = n
  ho : W.ownsRow (kb + 1) 3 1 (.slice a n cp) n (xs.map (Value.int .i64))
  hk : Bk W kb #[.bool nb, .slice a n cp] 27
  hr : Bk W w.heap.size #[.bool false, .slice none 0 0] 27
  hc : Cu W code len c B
  hg : Chg w W c (c + 1)
  hlt : w.heap.size < kb
  hcl : c < w.heap.size
theorem WSt.draw {w W W' : World} {code : Value} {len c kb n B B' : Nat} {nb : Bool} {a : Option Addr} {cp : Nat} {xs : List Int} (h : WSt w code len c kb n B nb a cp xs W) (g : Chg W W' c (c + 1)) (C : Cu W' code len c B') : WSt w code len c kb n B' nb a cp xs W' :=
  ⟨h.hl, row_far h.ho (fun b hb hb2 => g.block b hb2 (Or.inr (by have := h.hlt; have := h.hcl; omega))), h.hk.chg g (Or.inr (by have := h.hlt; have := h.hcl; omega)), h.hr.chg g (Or.inr (by have := h.hcl; omega)), C, h.hg.trans g, h.hlt, h.hcl⟩
theorem WSt.neg {w W : World} {code : Value} {len c kb n B : Nat} {nb : Bool} {a : Option Addr} {cp : Nat} {xs : List Int} (h : WSt w code len c kb n B nb a cp xs W) (b : Bool) : WSt w code len c kb n B b a cp xs (W.setCell ⟨kb, 0, none⟩ (.bool b)) :=
  ⟨h.hl, row_far h.ho (fun b' hb _ => heap_setCell_other _ _ _ _ (by show b' ≠ kb; omega)), bk_put0W h.hk _, bk_other h.hr (by have := h.hlt; show w.heap.size ≠ kb; omega) _, cu_own h.hc (by have := h.hlt; have := h.hcl; show c < kb; omega) _, chg_own h.hg (by have := h.hlt; show w.heap.size ≤ kb; omega) _, h.hlt, h.hcl⟩
theorem WSt.limb {w W : World} {code : Value} {len c kb n B g : Nat} {nb : Bool} {cp : Nat} {xs : List Int} (h : WSt w code len c kb n B nb (some ⟨g, 0, none⟩) cp xs W) (i : Nat) (y : Int) : WSt w code len c kb n B nb (some ⟨g, 0, none⟩) cp (xs.set i y) (W.setCell ⟨g, i, none⟩ (.int .i64 y)) := by
  have hgk : kb + 1 ≤ g := by
    rcases h.ho.2 with ⟨h1, _⟩ | ⟨g', cap, cur, e, hb, _⟩
    · cases h1
    · injection e with e1
      injection e1 with e2
      injection e2 with e3
      omega
  have st := (World.ownsRow.stored h.ho i (.int .i64 y)).1
  have := h.hlt
  have := h.hcl
  refine ⟨by rw [List.length_set]; exact h.hl, ?_, bk_other h.hk (by show kb ≠ g; omega) _, bk_other h.hr (by show w.heap.size ≠ g; omega) _, cu_own h.hc (by show c < g; omega) _, chg_own h.hg (by show w.heap.size ≤ g; omega) _, h.hlt, h.hcl⟩
  rw [List.map_set]
  simpa using st
theorem WSt.cell {w W : World} {code : Value} {len c kb n B g : Nat} {nb : Bool} {cp : Nat} {xs : List Int} (h : WSt w code len c kb n B nb (some ⟨g, 0, none⟩) cp xs W) (i : Nat) (hi : i < n) : W.cell? ⟨g, i, none⟩ = some (.int .i64 (xs.getD i 0)) ∧ W.frozen? ⟨g, i, none⟩ = false := by
  have hx : i < xs.length := by rw [h.hl]; exact hi
  have h1 := World.ownsRow.cellAt h.ho i (by omega)
  have h2 := World.ownsRow.frozenAt h.ho i
  refine ⟨?_, by simpa using h2⟩
  have h3 : W.cell? ⟨g, i, none⟩ = (xs.map (Value.int .i64))[i]? := by simpa using h1
  rw [h3]
  simp [List.getD, hx]
theorem WSt.addr {w W : World} {code : Value} {len c kb n B : Nat} {nb : Bool} {a : Option Addr} {cp : Nat} {xs : List Int} (h : WSt w code len c kb n B nb a cp xs W) (hn : 0 < n) : ∃ g, a = some ⟨g, 0, none⟩ := by
  rcases h.ho.2 with ⟨h1, h2⟩ | ⟨g, cap, cur, e, _⟩
  · omega
  · injection e with e1
    exact ⟨g, e1⟩
theorem WSt.push {w W w6 : World} {code : Value} {len c kb n B : Nat} {nb : Bool} {a a5 : Option Addr} {cp c5 : Nat} {xs : List Int} (y : Int) (h : WSt w code len c kb n B nb a cp xs W) (o5 : w6.ownsRow (kb + 1) 3 1 (.slice a5 (n + 1) c5) (n + 1) (xs.map (Value.int .i64) ++ [Value.int .i64 y])) (g5 : (W.alloc (.cells #[.int .i64 y] 3)).grownBy w6 (Value.slice a n cp).ownBlock) : Bk w6 kb #[.bool nb, .slice a n cp] 27 ∧ WSt w code len c kb (n + 1) B nb a5 c5 (xs ++ [y]) (w6.setCell ⟨kb, 1, none⟩ (.slice a5 (n + 1) c5)) := by
  have hob : ∀ j, (Value.slice a n cp).ownBlock = some j → kb < j := fun j e => by
    rcases h.ho.2 with ⟨h1, _⟩ | ⟨g', cap, cur, e1, hb, _⟩
    · rw [h1] at e
      cases e
    · rw [e1] at e
      have : g' = j := Option.some.inj e
      omega
  have := h.hlt
  have := h.hcl
  have hk6 : Bk w6 kb #[.bool nb, .slice a n cp] 27 := bk_grownW (h.hk.alloc _) g5 hob
  refine ⟨hk6, by rw [List.length_append, h.hl]; rfl, ?_, bk_put1W hk6 _, bk_other (bk_grownW (h.hr.alloc _) g5 (fun j e => by have := hob j e; omega)) (by show w.heap.size ≠ kb; omega) _, cu_own ((h.hc.old ((Old.refl W).alloc _)).grown g5 (fun j e => by have := hob j e; omega)) (by show c < kb; omega) _, chg_own (chg_grown (chg_alloc h.hg _) g5 (fun j e => by have := hob j e; omega)) (by show w.heap.size ≤ kb; omega) _, h.hlt, h.hcl⟩
  rw [List.map_append]
  exact row_far o5 (fun b' hb _ => heap_setCell_other _ _ _ _ (by show b' ≠ kb; omega))
theorem WSt.ends {w W : World} {code : Value} {len c kb n B B' : Nat} {nb : Bool} {a : Option Addr} {cp : Nat} {xs : List Int} (h : WSt w code len c kb n B nb a cp xs W) (hn : n ≤ 41) (hB : B ≤ B') : CuWh w code len c B' (.returned (.agg #[.bool nb, .slice a n cp])) ((W.setCell ⟨w.heap.size, 0, none⟩ (.bool nb)).setCell ⟨w.heap.size, 1, none⟩ (.slice a n cp)) := by
  have := h.hlt
  have := h.hcl
  refine ⟨nb, a, cp, xs, by rw [h.hl], by rw [h.hl]; exact hn, chg_own (chg_own h.hg (Nat.le_refl _) _) (Nat.le_refl _) _, (cu_own (cu_own h.hc (by exact h.hcl) _) (by exact h.hcl) _).mono hB, ?_⟩
  have ho : Own W (kb + 1) (.slice a xs.length cp) xs := by
    unfold Own
    rw [h.hl]
    exact h.ho
  refine Own.low (base := kb + 1) ?_ (by omega)
  unfold Own
  rw [h.hl]
  exact row_far h.ho (fun b' hb _ => (heap_setCell_other _ _ _ _ (by show b' ≠ w.heap.size; omega)).trans (heap_setCell_other _ _ _ _ (by show b' ≠ w.heap.size; omega)))
set_option maxRecDepth 100000 in
set_option maxHeartbeats 8000000 in
theorem whole_c {w : World} {code : Value} {len c B : Nat} (h : Cu w code len c B) (hB : B ≤ 34359738368) (hl : len ≤ 9223372036854775807) :
    Calls Tryz.prog 33 #[.pointer (some ⟨c, 0, none⟩)] w fun e w' => CuWh w code len c (B + 2000) e w' := by
  obtain ⟨i0, hi, hz0, hz1, hz2⟩ := info_parts Tryz.infoInt
  have hcw := h.lt
  have HR0 : Hid (Bk (w.alloc (.cells #[.bool false, .slice none 0 0] 27)) w.heap.size #[.bool false, .slice none 0 0] 27) := Bk.new' w _ _ rfl
  have HG0 : Hid (Chg w (w.alloc (.cells #[.bool false, .slice none 0 0] 27)) c (c + 1)) := ((Old.refl w).alloc _).toChg _ _
  have C0 := h.old ((Old.refl w).alloc (.cells #[.bool false, .slice none 0 0] 27))
  have c1 := pick_c C0 (by omega) hl 5 (by omega) (by omega)
  clear h C0
  go_enter Tryz.func33, Tryz.ntmps33
  go_wp2_with fail
  refine c1.mono ?_
  rintro e w1 ⟨⟨x, hx, rfl⟩, g1, C1⟩
  have HG1 := hid (HG0.out.trans g1)
  have HR1 := hid (HR0.out.chg g1 (Or.inr (by omega)))
  have c2 := one_c C1 (by omega) hl 12 (by omega) (by omega)
  clear g1 c1 HG0 HR0 C1
  go_wp2_with fail
  refine c2.mono ?_
  rintro e w2 ⟨⟨o, rfl⟩, g2, C2⟩
  have HG2 := hid (HG1.out.trans g2)
  have HR2 := hid (HR1.out.chg g2 (Or.inr (by omega)))
  have HC2 := hid C2
  clear g2 c2 HG1 HR1 C2
  obtain ⟨n1, hn1, rfl⟩ : ∃ n1 : Nat, n1 ≤ 41 ∧ x = n1 := ⟨x.toNat, by omega, by omega⟩
  clear hx
  cases o
  · have S0 : Hid (WSt w code len c w2.heap.size 0 (B + 2 + 2) false none 0 [] (w2.alloc (.cells #[.bool false, .slice none 0 0] 27))) := ⟨rfl, ⟨rfl, .inl ⟨rfl, rfl⟩⟩, Bk.new' w2 _ _ rfl, HR2.out.alloc _, HC2.out.old ((Old.refl w2).alloc _), chg_alloc HG2.out _, HR2.out.lt, hcw⟩
    obtain ⟨kb, hkb⟩ : ∃ kb, w2.heap.size = kb := ⟨_, rfl⟩
    rw [hkb] at S0
    clear HC2 HG2 HR2
    go_wp2_with fail
    go_loopw [5] (fun kv W' => ∃ (j : Nat) (a : Option Addr) (cp : Nat) (xs : List Int), j ≤ n1 ∧ kv = .int .i64 (j : Int) ∧ Hid (WSt w code len c kb j (B + 2 + 2 + 20 * j) false a cp xs W')) (fun kv _ => n1 - (intOf kv).toNat)
    case atStart => exact ⟨0, none, 0, [], by omega, rfl, S0⟩
    case round =>
      obtain ⟨j, a, cp, xs, hj, rfl, S1⟩ := hrel
      clear S0 hkb
      by_cases hlt : j < n1
      · have d1 : decide ((j : Int) < (n1 : Int)) = true := decide_eq_true (by omega)
        have c4 := wide_c S1.out.hc (by omega) hl
        go_wp2_with fail
        refine c4.mono ?_
        rintro e w4 ⟨⟨x4, hx4, rfl⟩, gq, Cq⟩
        have S2 := hid (S1.out.draw gq Cq)
        clear gq Cq c4 S1
        obtain ⟨X, hX, rX⟩ := u64_ofW x4
        have dz : ((268435456 : Int) == 0) = false := rfl
        have dz2 : ¬ ((268435456 : Int) = 0) := by omega
        have c5 := one_c S2.out.hc (by omega) hl 6 (by omega) (by omega)
        go_wp2_with fail
        refine c5.mono ?_
        rintro e w5 ⟨⟨o, rfl⟩, gq, Cq⟩
        have S3 := hid (S2.out.draw gq Cq)
        clear gq Cq c5 S2
        generalize X % 268435456 = y0 at *
        clear hX rX dz dz2 hx4
        cases o
        · have k1 := S3.out.hk.c (i := 1) rfl
          go_wp2_with (first | (at_builtin; go_loud (refine wpList_append_own _ rfl _ _ 23 rfl (kb + 1) 3 i0 (.int .i64 0) 1 8 Tryz.underlying23 hi hz0 hz1 hz2 rfl (by decide) _ _ _ rfl (row_far S3.out.ho (fun b _ hb => heap_alloc_old w5 (.cells #[.int .i64 y0] 3) hb)) ⟨w5.heap.size, 0, none⟩ 1 1 [.int .i64 y0] rfl rfl (lit1CW _ _ _) (lit1OW _) (by unfold maxLen; omega) (by omega) (by have := S3.out.hk.lt; simp; omega) ?_; intro v5 w6 o5 g5 x5; obtain ⟨a5, c5, rfl⟩ := sliceOfRowW o5; have HP := hid (S3.out.push y0 o5 g5); have k6 := HP.out.1.c (i := 1) rfl; have f6 := frozen_of_row _ _ 1 _ _ HP.out.1; have S7 := hid HP.out.2; clear o5 g5 x5 HP)))
          exact ⟨⟨j + 1, a5, c5, xs ++ [y0], by omega, by go_num, by refine hid ?_; exact { S7.out with hc := S7.out.hc.mono (by omega) }⟩, by simp [intOf]; omega⟩
        · have c6 := among_lit3 S3.out.hc (by omega) hl [0, 1, 268435455] (by decide) (by decide) 3
          go_wp2_with fail
          refine c6.mono ?_
          rintro e w7 ⟨⟨y, hy, rfl⟩, gq, Cq⟩
          have S4 := hid (S3.out.draw gq Cq)
          clear gq Cq c6 S3
          have k1 := S4.out.hk.c (i := 1) rfl
          go_wp2_with (first | (at_builtin; go_loud (refine wpList_append_own _ rfl _ _ 23 rfl (kb + 1) 3 i0 (.int .i64 0) 1 8 Tryz.underlying23 hi hz0 hz1 hz2 rfl (by decide) _ _ _ rfl (row_far S4.out.ho (fun b _ hb => heap_alloc_old w7 (.cells #[.int .i64 y] 3) hb)) ⟨w7.heap.size, 0, none⟩ 1 1 [.int .i64 y] rfl rfl (lit1CW _ _ _) (lit1OW _) (by unfold maxLen; omega) (by omega) (by have := S4.out.hk.lt; simp; omega) ?_; intro v5 w6 o5 g5 x5; obtain ⟨a5, c5, rfl⟩ := sliceOfRowW o5; have HP := hid (S4.out.push y o5 g5); have k6 := HP.out.1.c (i := 1) rfl; have f6 := frozen_of_row _ _ 1 _ _ HP.out.1; have S7 := hid HP.out.2; clear o5 g5 x5 HP)))
          exact ⟨⟨j + 1, a5, c5, xs ++ [y], by omega, by go_num, by refine hid ?_; exact { S7.out with hc := S7.out.hc.mono (by omega) }⟩, by simp [intOf]; omega⟩
      · have d1 : decide ((j : Int) < (n1 : Int)) = false := decide_eq_false (by omega)
        obtain rfl : j = n1 := by omega
        clear hlt d1
        rcases Nat.eq_zero_or_pos j with hj0 | hj0
        · have d2 : decide ((0 : Int) < (j : Int)) = false := decide_eq_false (by omega)
          have d3 : decide ((j : Int) > 0) = false := decide_eq_false (by omega)
          have d4 : decide (0 < j) = false := decide_eq_false (by omega)
          clear hj0
          have p0 := S1.out.hk.c (i := 0) rfl
          have p1 := frozen_of_row _ _ 0 _ _ S1.out.hk
          have S5 := hid (S1.out.neg false)
          have c9 := pick_c S5.out.hc (by omega) hl 60 (by omega) (by omega)
          go_wp2_with fail
          refine c9.mono ?_
          rintro e w9 ⟨⟨s, hs, rfl⟩, gq, Cq⟩
          have S9 := hid (S5.out.draw gq Cq)
          clear gq Cq c9 S5
          by_cases hs0 : s = 0
          · subst hs0
            have p0 := S9.out.hk.c (i := 0) rfl
            have p1 := frozen_of_row _ _ 0 _ _ S9.out.hk
            have S10 := hid (S9.out.neg true)
            have dq : ((0 : Int) == 0) = true := rfl
            have e0 := S10.out.hk.c (i := 0) rfl
            have e1 := S10.out.hk.c (i := 1) rfl
            have r0 := S10.out.hr.c (i := 0) rfl
            have r1 := S10.out.hr.c (i := 1) rfl
            have t0 := frozen_of_row _ _ 0 _ _ S10.out.hr
            have t1 := frozen_of_row _ _ 1 _ _ S10.out.hr
            go_wp2_with fail
            have q0 := (bk_put1W (bk_put0W S10.out.hr (.bool true)) (.slice a j cp)).c (i := 0) rfl
            have q1 := (bk_put1W (bk_put0W S10.out.hr (.bool true)) (.slice a j cp)).c (i := 1) rfl
            refine bodyPost_ret (v := .agg #[.bool true, .slice a j cp]) (by simp [results, Tryz.results33, go_sem, q0, q1]) rfl ?_
            exact S10.out.ends (by omega) (by omega)
          have dq : (s == 0) = false := by simpa using hs0
          by_cases hs1 : s = 1
          · subst hs1
            have dr : ((1 : Int) == 1) = true := rfl
            have e0 := S9.out.hk.c (i := 0) rfl
            have e1 := S9.out.hk.c (i := 1) rfl
            have r0 := S9.out.hr.c (i := 0) rfl
            have r1 := S9.out.hr.c (i := 1) rfl
            have t0 := frozen_of_row _ _ 0 _ _ S9.out.hr
            have t1 := frozen_of_row _ _ 1 _ _ S9.out.hr
            go_wp2_with fail
            have q0 := (bk_put1W (bk_put0W S9.out.hr (.bool false)) (.slice a j cp)).c (i := 0) rfl
            have q1 := (bk_put1W (bk_put0W S9.out.hr (.bool false)) (.slice a j cp)).c (i := 1) rfl
            refine bodyPost_ret (v := .agg #[.bool false, .slice a j cp]) (by simp [results, Tryz.results33, go_sem, q0, q1]) rfl ?_
            exact S9.out.ends (by omega) (by omega)
          have dr : (s == 1) = false := by simpa using hs1
          have e0 := S9.out.hk.c (i := 0) rfl
          have e1 := S9.out.hk.c (i := 1) rfl
          have r0 := S9.out.hr.c (i := 0) rfl
          have r1 := S9.out.hr.c (i := 1) rfl
          have t0 := frozen_of_row _ _ 0 _ _ S9.out.hr
          have t1 := frozen_of_row _ _ 1 _ _ S9.out.hr
          go_wp2_with fail
          have q0 := (bk_put1W (bk_put0W S9.out.hr (.bool false)) (.slice a j cp)).c (i := 0) rfl
          have q1 := (bk_put1W (bk_put0W S9.out.hr (.bool false)) (.slice a j cp)).c (i := 1) rfl
          refine bodyPost_ret (v := .agg #[.bool false, .slice a j cp]) (by simp [results, Tryz.results33, go_sem, q0, q1]) rfl ?_
          exact S9.out.ends (by omega) (by omega)
        · have d2 : decide ((0 : Int) < (j : Int)) = true := decide_eq_true (by omega)
          have d3 : decide ((j : Int) > 0) = true := decide_eq_true (by omega)
          obtain ⟨g, rfl⟩ := S1.out.addr hj0
          obtain ⟨i, hi1, es⟩ : ∃ i : Nat, i < j ∧ (j : Int) - 1 = (i : Int) := ⟨j - 1, by omega, by omega⟩
          have k1 := S1.out.hk.c (i := 1) rfl
          have k2 := (S1.out.cell i hi1).1
          obtain ⟨ℓ, hℓ⟩ : ∃ ℓ, xs.getD i 0 = ℓ := ⟨_, rfl⟩
          rw [hℓ] at k2
          clear hℓ
          by_cases hz : ℓ = 0
          · subst hz
            have dl : ((0 : Int) == 0) = true := rfl
            have c7 := one_c S1.out.hc (by omega) hl 8 (by omega) (by omega)
            go_wp2_with fail
            refine c7.mono ?_
            rintro e w7 ⟨⟨o, rfl⟩, gq, Cq⟩
            have S2 := hid (S1.out.draw gq Cq)
            clear gq Cq c7 S1
            clear k1 k2
            cases o
            · have k1 := S2.out.hk.c (i := 1) rfl
              have k2 := (S2.out.cell i hi1).1
              have k3 := (S2.out.cell i hi1).2
              have S3 := hid (S2.out.limb i 1)
              have c8 := one_c S3.out.hc (by omega) hl 2 (by omega) (by omega)
              go_wp2_with fail
              refine c8.mono ?_
              rintro e w8 ⟨⟨nb, rfl⟩, gq, Cq⟩
              have S5 := hid (S3.out.draw gq Cq)
              clear gq Cq c8 S3
              have p0 := S5.out.hk.c (i := 0) rfl
              have p1 := frozen_of_row _ _ 0 _ _ S5.out.hk
              have S6 := hid (S5.out.neg nb)
              have c9 := pick_c S6.out.hc (by omega) hl 60 (by omega) (by omega)
              go_wp2_with fail
              refine c9.mono ?_
              rintro e w9 ⟨⟨s, hs, rfl⟩, gq, Cq⟩
              have S9 := hid (S6.out.draw gq Cq)
              clear gq Cq c9 S6
              by_cases hs0 : s = 0
              · subst hs0
                have p0 := S9.out.hk.c (i := 0) rfl
                have p1 := frozen_of_row _ _ 0 _ _ S9.out.hk
                have S10 := hid (S9.out.neg true)
                have dq : ((0 : Int) == 0) = true := rfl
                have e0 := S10.out.hk.c (i := 0) rfl
                have e1 := S10.out.hk.c (i := 1) rfl
                have r0 := S10.out.hr.c (i := 0) rfl
                have r1 := S10.out.hr.c (i := 1) rfl
                have t0 := frozen_of_row _ _ 0 _ _ S10.out.hr
                have t1 := frozen_of_row _ _ 1 _ _ S10.out.hr
                go_wp2_with fail
                have q0 := (bk_put1W (bk_put0W S10.out.hr (.bool true)) (.slice (some ⟨g, 0, none⟩) j cp)).c (i := 0) rfl
                have q1 := (bk_put1W (bk_put0W S10.out.hr (.bool true)) (.slice (some ⟨g, 0, none⟩) j cp)).c (i := 1) rfl
                refine bodyPost_ret (v := .agg #[.bool true, .slice (some ⟨g, 0, none⟩) j cp]) (by simp [results, Tryz.results33, go_sem, q0, q1]) rfl ?_
                exact S10.out.ends (by omega) (by omega)
              have dq : (s == 0) = false := by simpa using hs0
              by_cases hs1 : s = 1
              · subst hs1
                have dr : ((1 : Int) == 1) = true := rfl
                have e1 := S9.out.hk.c (i := 1) rfl
                have HAS : Hid (∀ W', Chg w9 W' c (c + 1) → W'.cell? ⟨kb, 1, none⟩ = some (.slice (some ⟨g, 0, none⟩) j cp)) := fun W' q => (S9.out.hk.chg q (Or.inr (by have := S9.out.hlt; omega))).c (i := 1) rfl
                go_wp2_with fail
                go_region_held3 (fun W' => W'.cell? ⟨kb, 1, none⟩ = some (.slice (some ⟨g, 0, none⟩) j cp)) (first | with_reducible exact S11.out.hk.c (i := 1) rfl | with_reducible exact HAS.out _ Q10.out | with_reducible exact HAS.out _ (Old.toChg (Below.drew (Old.refl _)) _ _) | with_reducible exact HAS.out _ (Old.toChg ((Old.refl _).alloc _) _ _) | with_reducible exact HAS.out _ (Old.toChg (Below.drew ((Old.refl _).alloc _)) _ _) | with_reducible exact HAS.out _ (Old.toChg ((Below.drew (Old.refl _)).alloc _) _ _) | with_reducible exact HAS.out _ (Old.toChg (Old.refl _) _ _)) (first | (go_at_call 53; refine (among_c (S9.out.hc.old (Below.drew ((Old.refl w9).alloc _))) (by omega) hl _ [-1, 268435456] (by decide) (by decide) ((row_lit3 w9 [-1, 268435456] (by decide) 3).old (Below.drew (Old.refl _))) (fun b o n cap e => by have hcc := S9.out.hc.lt; injection e with e1; injection e1 with e2; injection e2 with e3; omega)).mono ?_; rintro e w10 ⟨⟨y, hy, rfl⟩, q10, C10⟩; have Q10 := hid ((Old.toChg (Below.drew ((Old.refl w9).alloc _)) c (c + 1)).trans q10); have S10 := hid (S9.out.draw Q10.out C10); have k2 := (S10.out.cell 0 hj0).1; have k3 := (S10.out.cell 0 hj0).2; have S11 := hid (S10.out.limb 0 y); clear q10 C10) | fail)
                have e0 := S11.out.hk.c (i := 0) rfl
                have e1 := S11.out.hk.c (i := 1) rfl
                have r0 := S11.out.hr.c (i := 0) rfl
                have r1 := S11.out.hr.c (i := 1) rfl
                have t0 := frozen_of_row _ _ 0 _ _ S11.out.hr
                have t1 := frozen_of_row _ _ 1 _ _ S11.out.hr
                go_wp2_with fail
                have q0 := (bk_put1W (bk_put0W S11.out.hr (.bool nb)) (.slice (some ⟨g, 0, none⟩) j cp)).c (i := 0) rfl
                have q1 := (bk_put1W (bk_put0W S11.out.hr (.bool nb)) (.slice (some ⟨g, 0, none⟩) j cp)).c (i := 1) rfl
                refine bodyPost_ret (v := .agg #[.bool nb, .slice (some ⟨g, 0, none⟩) j cp]) (by simp [results, Tryz.results33, go_sem, q0, q1]) rfl ?_
                exact S11.out.ends (by omega) (by omega)
              have dr : (s == 1) = false := by simpa using hs1
              have e0 := S9.out.hk.c (i := 0) rfl
              have e1 := S9.out.hk.c (i := 1) rfl
              have r0 := S9.out.hr.c (i := 0) rfl
              have r1 := S9.out.hr.c (i := 1) rfl
              have t0 := frozen_of_row _ _ 0 _ _ S9.out.hr
              have t1 := frozen_of_row _ _ 1 _ _ S9.out.hr
              go_wp2_with fail
              have q0 := (bk_put1W (bk_put0W S9.out.hr (.bool nb)) (.slice (some ⟨g, 0, none⟩) j cp)).c (i := 0) rfl
              have q1 := (bk_put1W (bk_put0W S9.out.hr (.bool nb)) (.slice (some ⟨g, 0, none⟩) j cp)).c (i := 1) rfl
              refine bodyPost_ret (v := .agg #[.bool nb, .slice (some ⟨g, 0, none⟩) j cp]) (by simp [results, Tryz.results33, go_sem, q0, q1]) rfl ?_
              exact S9.out.ends (by omega) (by omega)
            · have c8 := one_c S2.out.hc (by omega) hl 2 (by omega) (by omega)
              go_wp2_with fail
              refine c8.mono ?_
              rintro e w8 ⟨⟨nb, rfl⟩, gq, Cq⟩
              have S5 := hid (S2.out.draw gq Cq)
              clear gq Cq c8 S2
              have p0 := S5.out.hk.c (i := 0) rfl
              have p1 := frozen_of_row _ _ 0 _ _ S5.out.hk
              have S6 := hid (S5.out.neg nb)
              have c9 := pick_c S6.out.hc (by omega) hl 60 (by omega) (by omega)
              go_wp2_with fail
              refine c9.mono ?_
              rintro e w9 ⟨⟨s, hs, rfl⟩, gq, Cq⟩
              have S9 := hid (S6.out.draw gq Cq)
              clear gq Cq c9 S6
              by_cases hs0 : s = 0
              · subst hs0
                have p0 := S9.out.hk.c (i := 0) rfl
                have p1 := frozen_of_row _ _ 0 _ _ S9.out.hk
                have S10 := hid (S9.out.neg true)
                have dq : ((0 : Int) == 0) = true := rfl
                have e0 := S10.out.hk.c (i := 0) rfl
                have e1 := S10.out.hk.c (i := 1) rfl
                have r0 := S10.out.hr.c (i := 0) rfl
                have r1 := S10.out.hr.c (i := 1) rfl
                have t0 := frozen_of_row _ _ 0 _ _ S10.out.hr
                have t1 := frozen_of_row _ _ 1 _ _ S10.out.hr
                go_wp2_with fail
                have q0 := (bk_put1W (bk_put0W S10.out.hr (.bool true)) (.slice (some ⟨g, 0, none⟩) j cp)).c (i := 0) rfl
                have q1 := (bk_put1W (bk_put0W S10.out.hr (.bool true)) (.slice (some ⟨g, 0, none⟩) j cp)).c (i := 1) rfl
                refine bodyPost_ret (v := .agg #[.bool true, .slice (some ⟨g, 0, none⟩) j cp]) (by simp [results, Tryz.results33, go_sem, q0, q1]) rfl ?_
                exact S10.out.ends (by omega) (by omega)
              have dq : (s == 0) = false := by simpa using hs0
              by_cases hs1 : s = 1
              · subst hs1
                have dr : ((1 : Int) == 1) = true := rfl
                have e1 := S9.out.hk.c (i := 1) rfl
                have HAS : Hid (∀ W', Chg w9 W' c (c + 1) → W'.cell? ⟨kb, 1, none⟩ = some (.slice (some ⟨g, 0, none⟩) j cp)) := fun W' q => (S9.out.hk.chg q (Or.inr (by have := S9.out.hlt; omega))).c (i := 1) rfl
                go_wp2_with fail
                go_region_held3 (fun W' => W'.cell? ⟨kb, 1, none⟩ = some (.slice (some ⟨g, 0, none⟩) j cp)) (first | with_reducible exact S11.out.hk.c (i := 1) rfl | with_reducible exact HAS.out _ Q10.out | with_reducible exact HAS.out _ (Old.toChg (Below.drew (Old.refl _)) _ _) | with_reducible exact HAS.out _ (Old.toChg ((Old.refl _).alloc _) _ _) | with_reducible exact HAS.out _ (Old.toChg (Below.drew ((Old.refl _).alloc _)) _ _) | with_reducible exact HAS.out _ (Old.toChg ((Below.drew (Old.refl _)).alloc _) _ _) | with_reducible exact HAS.out _ (Old.toChg (Old.refl _) _ _)) (first | (go_at_call 53; refine (among_c (S9.out.hc.old (Below.drew ((Old.refl w9).alloc _))) (by omega) hl _ [-1, 268435456] (by decide) (by decide) ((row_lit3 w9 [-1, 268435456] (by decide) 3).old (Below.drew (Old.refl _))) (fun b o n cap e => by have hcc := S9.out.hc.lt; injection e with e1; injection e1 with e2; injection e2 with e3; omega)).mono ?_; rintro e w10 ⟨⟨y, hy, rfl⟩, q10, C10⟩; have Q10 := hid ((Old.toChg (Below.drew ((Old.refl w9).alloc _)) c (c + 1)).trans q10); have S10 := hid (S9.out.draw Q10.out C10); have k2 := (S10.out.cell 0 hj0).1; have k3 := (S10.out.cell 0 hj0).2; have S11 := hid (S10.out.limb 0 y); clear q10 C10) | fail)
                have e0 := S11.out.hk.c (i := 0) rfl
                have e1 := S11.out.hk.c (i := 1) rfl
                have r0 := S11.out.hr.c (i := 0) rfl
                have r1 := S11.out.hr.c (i := 1) rfl
                have t0 := frozen_of_row _ _ 0 _ _ S11.out.hr
                have t1 := frozen_of_row _ _ 1 _ _ S11.out.hr
                go_wp2_with fail
                have q0 := (bk_put1W (bk_put0W S11.out.hr (.bool nb)) (.slice (some ⟨g, 0, none⟩) j cp)).c (i := 0) rfl
                have q1 := (bk_put1W (bk_put0W S11.out.hr (.bool nb)) (.slice (some ⟨g, 0, none⟩) j cp)).c (i := 1) rfl
                refine bodyPost_ret (v := .agg #[.bool nb, .slice (some ⟨g, 0, none⟩) j cp]) (by simp [results, Tryz.results33, go_sem, q0, q1]) rfl ?_
                exact S11.out.ends (by omega) (by omega)
              have dr : (s == 1) = false := by simpa using hs1
              have e0 := S9.out.hk.c (i := 0) rfl
              have e1 := S9.out.hk.c (i := 1) rfl
              have r0 := S9.out.hr.c (i := 0) rfl
              have r1 := S9.out.hr.c (i := 1) rfl
              have t0 := frozen_of_row _ _ 0 _ _ S9.out.hr
              have t1 := frozen_of_row _ _ 1 _ _ S9.out.hr
              go_wp2_with fail
              have q0 := (bk_put1W (bk_put0W S9.out.hr (.bool nb)) (.slice (some ⟨g, 0, none⟩) j cp)).c (i := 0) rfl
              have q1 := (bk_put1W (bk_put0W S9.out.hr (.bool nb)) (.slice (some ⟨g, 0, none⟩) j cp)).c (i := 1) rfl
              refine bodyPost_ret (v := .agg #[.bool nb, .slice (some ⟨g, 0, none⟩) j cp]) (by simp [results, Tryz.results33, go_sem, q0, q1]) rfl ?_
              exact S9.out.ends (by omega) (by omega)
          · have dl : (ℓ == 0) = false := by simpa using hz
            have c8 := one_c S1.out.hc (by omega) hl 2 (by omega) (by omega)
            go_wp2_with fail
            refine c8.mono ?_
            rintro e w8 ⟨⟨nb, rfl⟩, gq, Cq⟩
            have S5 := hid (S1.out.draw gq Cq)
            clear gq Cq c8 S1
            have p0 := S5.out.hk.c (i := 0) rfl
            have p1 := frozen_of_row _ _ 0 _ _ S5.out.hk
            have S6 := hid (S5.out.neg nb)
            have c9 := pick_c S6.out.hc (by omega) hl 60 (by omega) (by omega)
            go_wp2_with fail
            refine c9.mono ?_
            rintro e w9 ⟨⟨s, hs, rfl⟩, gq, Cq⟩
            have S9 := hid (S6.out.draw gq Cq)
            clear gq Cq c9 S6
            by_cases hs0 : s = 0
            · subst hs0
              have p0 := S9.out.hk.c (i := 0) rfl
              have p1 := frozen_of_row _ _ 0 _ _ S9.out.hk
              have S10 := hid (S9.out.neg true)
              have dq : ((0 : Int) == 0) = true := rfl
              have e0 := S10.out.hk.c (i := 0) rfl
              have e1 := S10.out.hk.c (i := 1) rfl
              have r0 := S10.out.hr.c (i := 0) rfl
              have r1 := S10.out.hr.c (i := 1) rfl
              have t0 := frozen_of_row _ _ 0 _ _ S10.out.hr
              have t1 := frozen_of_row _ _ 1 _ _ S10.out.hr
              go_wp2_with fail
              have q0 := (bk_put1W (bk_put0W S10.out.hr (.bool true)) (.slice (some ⟨g, 0, none⟩) j cp)).c (i := 0) rfl
              have q1 := (bk_put1W (bk_put0W S10.out.hr (.bool true)) (.slice (some ⟨g, 0, none⟩) j cp)).c (i := 1) rfl
              refine bodyPost_ret (v := .agg #[.bool true, .slice (some ⟨g, 0, none⟩) j cp]) (by simp [results, Tryz.results33, go_sem, q0, q1]) rfl ?_
              exact S10.out.ends (by omega) (by omega)
            have dq : (s == 0) = false := by simpa using hs0
            by_cases hs1 : s = 1
            · subst hs1
              have dr : ((1 : Int) == 1) = true := rfl
              have e1 := S9.out.hk.c (i := 1) rfl
              have HAS : Hid (∀ W', Chg w9 W' c (c + 1) → W'.cell? ⟨kb, 1, none⟩ = some (.slice (some ⟨g, 0, none⟩) j cp)) := fun W' q => (S9.out.hk.chg q (Or.inr (by have := S9.out.hlt; omega))).c (i := 1) rfl
              go_wp2_with fail
              go_region_held3 (fun W' => W'.cell? ⟨kb, 1, none⟩ = some (.slice (some ⟨g, 0, none⟩) j cp)) (first | with_reducible exact S11.out.hk.c (i := 1) rfl | with_reducible exact HAS.out _ Q10.out | with_reducible exact HAS.out _ (Old.toChg (Below.drew (Old.refl _)) _ _) | with_reducible exact HAS.out _ (Old.toChg ((Old.refl _).alloc _) _ _) | with_reducible exact HAS.out _ (Old.toChg (Below.drew ((Old.refl _).alloc _)) _ _) | with_reducible exact HAS.out _ (Old.toChg ((Below.drew (Old.refl _)).alloc _) _ _) | with_reducible exact HAS.out _ (Old.toChg (Old.refl _) _ _)) (first | (go_at_call 53; refine (among_c (S9.out.hc.old (Below.drew ((Old.refl w9).alloc _))) (by omega) hl _ [-1, 268435456] (by decide) (by decide) ((row_lit3 w9 [-1, 268435456] (by decide) 3).old (Below.drew (Old.refl _))) (fun b o n cap e => by have hcc := S9.out.hc.lt; injection e with e1; injection e1 with e2; injection e2 with e3; omega)).mono ?_; rintro e w10 ⟨⟨y, hy, rfl⟩, q10, C10⟩; have Q10 := hid ((Old.toChg (Below.drew ((Old.refl w9).alloc _)) c (c + 1)).trans q10); have S10 := hid (S9.out.draw Q10.out C10); have k2 := (S10.out.cell 0 hj0).1; have k3 := (S10.out.cell 0 hj0).2; have S11 := hid (S10.out.limb 0 y); clear q10 C10) | fail)
              have e0 := S11.out.hk.c (i := 0) rfl
              have e1 := S11.out.hk.c (i := 1) rfl
              have r0 := S11.out.hr.c (i := 0) rfl
              have r1 := S11.out.hr.c (i := 1) rfl
              have t0 := frozen_of_row _ _ 0 _ _ S11.out.hr
              have t1 := frozen_of_row _ _ 1 _ _ S11.out.hr
              go_wp2_with fail
              have q0 := (bk_put1W (bk_put0W S11.out.hr (.bool nb)) (.slice (some ⟨g, 0, none⟩) j cp)).c (i := 0) rfl
              have q1 := (bk_put1W (bk_put0W S11.out.hr (.bool nb)) (.slice (some ⟨g, 0, none⟩) j cp)).c (i := 1) rfl
              refine bodyPost_ret (v := .agg #[.bool nb, .slice (some ⟨g, 0, none⟩) j cp]) (by simp [results, Tryz.results33, go_sem, q0, q1]) rfl ?_
              exact S11.out.ends (by omega) (by omega)
            have dr : (s == 1) = false := by simpa using hs1
            have e0 := S9.out.hk.c (i := 0) rfl
            have e1 := S9.out.hk.c (i := 1) rfl
            have r0 := S9.out.hr.c (i := 0) rfl
            have r1 := S9.out.hr.c (i := 1) rfl
            have t0 := frozen_of_row _ _ 0 _ _ S9.out.hr
            have t1 := frozen_of_row _ _ 1 _ _ S9.out.hr
            go_wp2_with fail
            have q0 := (bk_put1W (bk_put0W S9.out.hr (.bool nb)) (.slice (some ⟨g, 0, none⟩) j cp)).c (i := 0) rfl
            have q1 := (bk_put1W (bk_put0W S9.out.hr (.bool nb)) (.slice (some ⟨g, 0, none⟩) j cp)).c (i := 1) rfl
            refine bodyPost_ret (v := .agg #[.bool nb, .slice (some ⟨g, 0, none⟩) j cp]) (by simp [results, Tryz.results33, go_sem, q0, q1]) rfl ?_
            exact S9.out.ends (by omega) (by omega)
  · have c3 := among_lit3 HC2.out (by omega) hl [20, 39, 40, 41] (by decide) (by decide) 3
    go_wp2_with fail
    refine c3.mono ?_
    rintro e w3 ⟨⟨y, hy, rfl⟩, g3, C3⟩
    have HG3 := hid (HG2.out.trans g3)
    have HR3 := hid (HR2.out.chg g3 (Or.inr (by omega)))
    have HC3 := hid C3
    obtain ⟨n2, hn2, rfl⟩ : ∃ n2 : Nat, n2 ≤ 41 ∧ y = n2 := ⟨y.toNat, by simp at hy; omega, by simp at hy; omega⟩
    clear hy g3 c3 C3 HC2 HG2 HR2
    have S0 : Hid (WSt w code len c w3.heap.size 0 (B + 2 + 2 + 2) false none 0 [] (w3.alloc (.cells #[.bool false, .slice none 0 0] 27))) := ⟨rfl, ⟨rfl, .inl ⟨rfl, rfl⟩⟩, Bk.new' w3 _ _ rfl, HR3.out.alloc _, HC3.out.old ((Old.refl w3).alloc _), chg_alloc HG3.out _, HR3.out.lt, hcw⟩
    obtain ⟨kb, hkb⟩ : ∃ kb, w3.heap.size = kb := ⟨_, rfl⟩
    rw [hkb] at S0
    clear HC3 HG3 HR3
    go_wp2_with fail
    go_loopw [5] (fun kv W' => ∃ (j : Nat) (a : Option Addr) (cp : Nat) (xs : List Int), j ≤ n2 ∧ kv = .int .i64 (j : Int) ∧ Hid (WSt w code len c kb j (B + 2 + 2 + 2 + 20 * j) false a cp xs W')) (fun kv _ => n2 - (intOf kv).toNat)
    case atStart => exact ⟨0, none, 0, [], by omega, rfl, S0⟩
    case round =>
      obtain ⟨j, a, cp, xs, hj, rfl, S1⟩ := hrel
      clear S0 hkb
      by_cases hlt : j < n2
      · have d1 : decide ((j : Int) < (n2 : Int)) = true := decide_eq_true (by omega)
        have c4 := wide_c S1.out.hc (by omega) hl
        go_wp2_with fail
        refine c4.mono ?_
        rintro e w4 ⟨⟨x4, hx4, rfl⟩, gq, Cq⟩
        have S2 := hid (S1.out.draw gq Cq)
        clear gq Cq c4 S1
        obtain ⟨X, hX, rX⟩ := u64_ofW x4
        have dz : ((268435456 : Int) == 0) = false := rfl
        have dz2 : ¬ ((268435456 : Int) = 0) := by omega
        have c5 := one_c S2.out.hc (by omega) hl 6 (by omega) (by omega)
        go_wp2_with fail
        refine c5.mono ?_
        rintro e w5 ⟨⟨o, rfl⟩, gq, Cq⟩
        have S3 := hid (S2.out.draw gq Cq)
        clear gq Cq c5 S2
        generalize X % 268435456 = y0 at *
        clear hX rX dz dz2 hx4
        cases o
        · have k1 := S3.out.hk.c (i := 1) rfl
          go_wp2_with (first | (at_builtin; go_loud (refine wpList_append_own _ rfl _ _ 23 rfl (kb + 1) 3 i0 (.int .i64 0) 1 8 Tryz.underlying23 hi hz0 hz1 hz2 rfl (by decide) _ _ _ rfl (row_far S3.out.ho (fun b _ hb => heap_alloc_old w5 (.cells #[.int .i64 y0] 3) hb)) ⟨w5.heap.size, 0, none⟩ 1 1 [.int .i64 y0] rfl rfl (lit1CW _ _ _) (lit1OW _) (by unfold maxLen; omega) (by omega) (by have := S3.out.hk.lt; simp; omega) ?_; intro v5 w6 o5 g5 x5; obtain ⟨a5, c5, rfl⟩ := sliceOfRowW o5; have HP := hid (S3.out.push y0 o5 g5); have k6 := HP.out.1.c (i := 1) rfl; have f6 := frozen_of_row _ _ 1 _ _ HP.out.1; have S7 := hid HP.out.2; clear o5 g5 x5 HP)))
          exact ⟨⟨j + 1, a5, c5, xs ++ [y0], by omega, by go_num, by refine hid ?_; exact { S7.out with hc := S7.out.hc.mono (by omega) }⟩, by simp [intOf]; omega⟩
        · have c6 := among_lit3 S3.out.hc (by omega) hl [0, 1, 268435455] (by decide) (by decide) 3
          go_wp2_with fail
          refine c6.mono ?_
          rintro e w7 ⟨⟨y, hy, rfl⟩, gq, Cq⟩
          have S4 := hid (S3.out.draw gq Cq)
          clear gq Cq c6 S3
          have k1 := S4.out.hk.c (i := 1) rfl
          go_wp2_with (first | (at_builtin; go_loud (refine wpList_append_own _ rfl _ _ 23 rfl (kb + 1) 3 i0 (.int .i64 0) 1 8 Tryz.underlying23 hi hz0 hz1 hz2 rfl (by decide) _ _ _ rfl (row_far S4.out.ho (fun b _ hb => heap_alloc_old w7 (.cells #[.int .i64 y] 3) hb)) ⟨w7.heap.size, 0, none⟩ 1 1 [.int .i64 y] rfl rfl (lit1CW _ _ _) (lit1OW _) (by unfold maxLen; omega) (by omega) (by have := S4.out.hk.lt; simp; omega) ?_; intro v5 w6 o5 g5 x5; obtain ⟨a5, c5, rfl⟩ := sliceOfRowW o5; have HP := hid (S4.out.push y o5 g5); have k6 := HP.out.1.c (i := 1) rfl; have f6 := frozen_of_row _ _ 1 _ _ HP.out.1; have S7 := hid HP.out.2; clear o5 g5 x5 HP)))
          exact ⟨⟨j + 1, a5, c5, xs ++ [y], by omega, by go_num, by refine hid ?_; exact { S7.out with hc := S7.out.hc.mono (by omega) }⟩, by simp [intOf]; omega⟩
      · have d1 : decide ((j : Int) < (n2 : Int)) = false := decide_eq_false (by omega)
        obtain rfl : j = n2 := by omega
        clear hlt d1
        rcases Nat.eq_zero_or_pos j with hj0 | hj0
        · have d2 : decide ((0 : Int) < (j : Int)) = false := decide_eq_false (by omega)
          have d3 : decide ((j : Int) > 0) = false := decide_eq_false (by omega)
          have d4 : decide (0 < j) = false := decide_eq_false (by omega)
          clear hj0
          have p0 := S1.out.hk.c (i := 0) rfl
          have p1 := frozen_of_row _ _ 0 _ _ S1.out.hk
          have S5 := hid (S1.out.neg false)
          have c9 := pick_c S5.out.hc (by omega) hl 60 (by omega) (by omega)
          go_wp2_with fail
          refine c9.mono ?_
          rintro e w9 ⟨⟨s, hs, rfl⟩, gq, Cq⟩
          have S9 := hid (S5.out.draw gq Cq)
          clear gq Cq c9 S5
          by_cases hs0 : s = 0
          · subst hs0
            have p0 := S9.out.hk.c (i := 0) rfl
            have p1 := frozen_of_row _ _ 0 _ _ S9.out.hk
            have S10 := hid (S9.out.neg true)
            have dq : ((0 : Int) == 0) = true := rfl
            have e0 := S10.out.hk.c (i := 0) rfl
            have e1 := S10.out.hk.c (i := 1) rfl
            have r0 := S10.out.hr.c (i := 0) rfl
            have r1 := S10.out.hr.c (i := 1) rfl
            have t0 := frozen_of_row _ _ 0 _ _ S10.out.hr
            have t1 := frozen_of_row _ _ 1 _ _ S10.out.hr
            go_wp2_with fail
            have q0 := (bk_put1W (bk_put0W S10.out.hr (.bool true)) (.slice a j cp)).c (i := 0) rfl
            have q1 := (bk_put1W (bk_put0W S10.out.hr (.bool true)) (.slice a j cp)).c (i := 1) rfl
            refine bodyPost_ret (v := .agg #[.bool true, .slice a j cp]) (by simp [results, Tryz.results33, go_sem, q0, q1]) rfl ?_
            exact S10.out.ends (by omega) (by omega)
          have dq : (s == 0) = false := by simpa using hs0
          by_cases hs1 : s = 1
          · subst hs1
            have dr : ((1 : Int) == 1) = true := rfl
            have e0 := S9.out.hk.c (i := 0) rfl
            have e1 := S9.out.hk.c (i := 1) rfl
            have r0 := S9.out.hr.c (i := 0) rfl
            have r1 := S9.out.hr.c (i := 1) rfl
            have t0 := frozen_of_row _ _ 0 _ _ S9.out.hr
            have t1 := frozen_of_row _ _ 1 _ _ S9.out.hr
            go_wp2_with fail
            have q0 := (bk_put1W (bk_put0W S9.out.hr (.bool false)) (.slice a j cp)).c (i := 0) rfl
            have q1 := (bk_put1W (bk_put0W S9.out.hr (.bool false)) (.slice a j cp)).c (i := 1) rfl
            refine bodyPost_ret (v := .agg #[.bool false, .slice a j cp]) (by simp [results, Tryz.results33, go_sem, q0, q1]) rfl ?_
            exact S9.out.ends (by omega) (by omega)
          have dr : (s == 1) = false := by simpa using hs1
          have e0 := S9.out.hk.c (i := 0) rfl
          have e1 := S9.out.hk.c (i := 1) rfl
          have r0 := S9.out.hr.c (i := 0) rfl
          have r1 := S9.out.hr.c (i := 1) rfl
          have t0 := frozen_of_row _ _ 0 _ _ S9.out.hr
          have t1 := frozen_of_row _ _ 1 _ _ S9.out.hr
          go_wp2_with fail
          have q0 := (bk_put1W (bk_put0W S9.out.hr (.bool false)) (.slice a j cp)).c (i := 0) rfl
          have q1 := (bk_put1W (bk_put0W S9.out.hr (.bool false)) (.slice a j cp)).c (i := 1) rfl
          refine bodyPost_ret (v := .agg #[.bool false, .slice a j cp]) (by simp [results, Tryz.results33, go_sem, q0, q1]) rfl ?_
          exact S9.out.ends (by omega) (by omega)
        · have d2 : decide ((0 : Int) < (j : Int)) = true := decide_eq_true (by omega)
          have d3 : decide ((j : Int) > 0) = true := decide_eq_true (by omega)
          obtain ⟨g, rfl⟩ := S1.out.addr hj0
          obtain ⟨i, hi1, es⟩ : ∃ i : Nat, i < j ∧ (j : Int) - 1 = (i : Int) := ⟨j - 1, by omega, by omega⟩
          have k1 := S1.out.hk.c (i := 1) rfl
          have k2 := (S1.out.cell i hi1).1
          obtain ⟨ℓ, hℓ⟩ : ∃ ℓ, xs.getD i 0 = ℓ := ⟨_, rfl⟩
          rw [hℓ] at k2
          clear hℓ
          by_cases hz : ℓ = 0
          · subst hz
            have dl : ((0 : Int) == 0) = true := rfl
            have c7 := one_c S1.out.hc (by omega) hl 8 (by omega) (by omega)
            go_wp2_with fail
            refine c7.mono ?_
            rintro e w7 ⟨⟨o, rfl⟩, gq, Cq⟩
            have S2 := hid (S1.out.draw gq Cq)
            clear gq Cq c7 S1
            clear k1 k2
            cases o
            · have k1 := S2.out.hk.c (i := 1) rfl
              have k2 := (S2.out.cell i hi1).1
              have k3 := (S2.out.cell i hi1).2
              have S3 := hid (S2.out.limb i 1)
              have c8 := one_c S3.out.hc (by omega) hl 2 (by omega) (by omega)
              go_wp2_with fail
              refine c8.mono ?_
              rintro e w8 ⟨⟨nb, rfl⟩, gq, Cq⟩
              have S5 := hid (S3.out.draw gq Cq)
              clear gq Cq c8 S3
              have p0 := S5.out.hk.c (i := 0) rfl
              have p1 := frozen_of_row _ _ 0 _ _ S5.out.hk
              have S6 := hid (S5.out.neg nb)
              have c9 := pick_c S6.out.hc (by omega) hl 60 (by omega) (by omega)
              go_wp2_with fail
              refine c9.mono ?_
              rintro e w9 ⟨⟨s, hs, rfl⟩, gq, Cq⟩
              have S9 := hid (S6.out.draw gq Cq)
              clear gq Cq c9 S6
              by_cases hs0 : s = 0
              · subst hs0
                have p0 := S9.out.hk.c (i := 0) rfl
                have p1 := frozen_of_row _ _ 0 _ _ S9.out.hk
                have S10 := hid (S9.out.neg true)
                have dq : ((0 : Int) == 0) = true := rfl
                have e0 := S10.out.hk.c (i := 0) rfl
                have e1 := S10.out.hk.c (i := 1) rfl
                have r0 := S10.out.hr.c (i := 0) rfl
                have r1 := S10.out.hr.c (i := 1) rfl
                have t0 := frozen_of_row _ _ 0 _ _ S10.out.hr
                have t1 := frozen_of_row _ _ 1 _ _ S10.out.hr
                go_wp2_with fail
                have q0 := (bk_put1W (bk_put0W S10.out.hr (.bool true)) (.slice (some ⟨g, 0, none⟩) j cp)).c (i := 0) rfl
                have q1 := (bk_put1W (bk_put0W S10.out.hr (.bool true)) (.slice (some ⟨g, 0, none⟩) j cp)).c (i := 1) rfl
                refine bodyPost_ret (v := .agg #[.bool true, .slice (some ⟨g, 0, none⟩) j cp]) (by simp [results, Tryz.results33, go_sem, q0, q1]) rfl ?_
                exact S10.out.ends (by omega) (by omega)
              have dq : (s == 0) = false := by simpa using hs0
              by_cases hs1 : s = 1
              · subst hs1
                have dr : ((1 : Int) == 1) = true := rfl
                have e1 := S9.out.hk.c (i := 1) rfl
                have HAS : Hid (∀ W', Chg w9 W' c (c + 1) → W'.cell? ⟨kb, 1, none⟩ = some (.slice (some ⟨g, 0, none⟩) j cp)) := fun W' q => (S9.out.hk.chg q (Or.inr (by have := S9.out.hlt; omega))).c (i := 1) rfl
                go_wp2_with fail
                go_region_held3 (fun W' => W'.cell? ⟨kb, 1, none⟩ = some (.slice (some ⟨g, 0, none⟩) j cp)) (first | with_reducible exact S11.out.hk.c (i := 1) rfl | with_reducible exact HAS.out _ Q10.out | with_reducible exact HAS.out _ (Old.toChg (Below.drew (Old.refl _)) _ _) | with_reducible exact HAS.out _ (Old.toChg ((Old.refl _).alloc _) _ _) | with_reducible exact HAS.out _ (Old.toChg (Below.drew ((Old.refl _).alloc _)) _ _) | with_reducible exact HAS.out _ (Old.toChg ((Below.drew (Old.refl _)).alloc _) _ _) | with_reducible exact HAS.out _ (Old.toChg (Old.refl _) _ _)) (first | (go_at_call 53; refine (among_c (S9.out.hc.old (Below.drew ((Old.refl w9).alloc _))) (by omega) hl _ [-1, 268435456] (by decide) (by decide) ((row_lit3 w9 [-1, 268435456] (by decide) 3).old (Below.drew (Old.refl _))) (fun b o n cap e => by have hcc := S9.out.hc.lt; injection e with e1; injection e1 with e2; injection e2 with e3; omega)).mono ?_; rintro e w10 ⟨⟨y, hy, rfl⟩, q10, C10⟩; have Q10 := hid ((Old.toChg (Below.drew ((Old.refl w9).alloc _)) c (c + 1)).trans q10); have S10 := hid (S9.out.draw Q10.out C10); have k2 := (S10.out.cell 0 hj0).1; have k3 := (S10.out.cell 0 hj0).2; have S11 := hid (S10.out.limb 0 y); clear q10 C10) | fail)
                have e0 := S11.out.hk.c (i := 0) rfl
                have e1 := S11.out.hk.c (i := 1) rfl
                have r0 := S11.out.hr.c (i := 0) rfl
                have r1 := S11.out.hr.c (i := 1) rfl
                have t0 := frozen_of_row _ _ 0 _ _ S11.out.hr
                have t1 := frozen_of_row _ _ 1 _ _ S11.out.hr
                go_wp2_with fail
                have q0 := (bk_put1W (bk_put0W S11.out.hr (.bool nb)) (.slice (some ⟨g, 0, none⟩) j cp)).c (i := 0) rfl
                have q1 := (bk_put1W (bk_put0W S11.out.hr (.bool nb)) (.slice (some ⟨g, 0, none⟩) j cp)).c (i := 1) rfl
                refine bodyPost_ret (v := .agg #[.bool nb, .slice (some ⟨g, 0, none⟩) j cp]) (by simp [results, Tryz.results33, go_sem, q0, q1]) rfl ?_
                exact S11.out.ends (by omega) (by omega)
              have dr : (s == 1) = false := by simpa using hs1
              have e0 := S9.out.hk.c (i := 0) rfl
              have e1 := S9.out.hk.c (i := 1) rfl
              have r0 := S9.out.hr.c (i := 0) rfl
              have r1 := S9.out.hr.c (i := 1) rfl
              have t0 := frozen_of_row _ _ 0 _ _ S9.out.hr
              have t1 := frozen_of_row _ _ 1 _ _ S9.out.hr
              go_wp2_with fail
              have q0 := (bk_put1W (bk_put0W S9.out.hr (.bool nb)) (.slice (some ⟨g, 0, none⟩) j cp)).c (i := 0) rfl
              have q1 := (bk_put1W (bk_put0W S9.out.hr (.bool nb)) (.slice (some ⟨g, 0, none⟩) j cp)).c (i := 1) rfl
              refine bodyPost_ret (v := .agg #[.bool nb, .slice (some ⟨g, 0, none⟩) j cp]) (by simp [results, Tryz.results33, go_sem, q0, q1]) rfl ?_
              exact S9.out.ends (by omega) (by omega)
            · have c8 := one_c S2.out.hc (by omega) hl 2 (by omega) (by omega)
              go_wp2_with fail
              refine c8.mono ?_
              rintro e w8 ⟨⟨nb, rfl⟩, gq, Cq⟩
              have S5 := hid (S2.out.draw gq Cq)
              clear gq Cq c8 S2
              have p0 := S5.out.hk.c (i := 0) rfl
              have p1 := frozen_of_row _ _ 0 _ _ S5.out.hk
              have S6 := hid (S5.out.neg nb)
              have c9 := pick_c S6.out.hc (by omega) hl 60 (by omega) (by omega)
              go_wp2_with fail
              refine c9.mono ?_
              rintro e w9 ⟨⟨s, hs, rfl⟩, gq, Cq⟩
              have S9 := hid (S6.out.draw gq Cq)
              clear gq Cq c9 S6
              by_cases hs0 : s = 0
              · subst hs0
                have p0 := S9.out.hk.c (i := 0) rfl
                have p1 := frozen_of_row _ _ 0 _ _ S9.out.hk
                have S10 := hid (S9.out.neg true)
                have dq : ((0 : Int) == 0) = true := rfl
                have e0 := S10.out.hk.c (i := 0) rfl
                have e1 := S10.out.hk.c (i := 1) rfl
                have r0 := S10.out.hr.c (i := 0) rfl
                have r1 := S10.out.hr.c (i := 1) rfl
                have t0 := frozen_of_row _ _ 0 _ _ S10.out.hr
                have t1 := frozen_of_row _ _ 1 _ _ S10.out.hr
                go_wp2_with fail
                have q0 := (bk_put1W (bk_put0W S10.out.hr (.bool true)) (.slice (some ⟨g, 0, none⟩) j cp)).c (i := 0) rfl
                have q1 := (bk_put1W (bk_put0W S10.out.hr (.bool true)) (.slice (some ⟨g, 0, none⟩) j cp)).c (i := 1) rfl
                refine bodyPost_ret (v := .agg #[.bool true, .slice (some ⟨g, 0, none⟩) j cp]) (by simp [results, Tryz.results33, go_sem, q0, q1]) rfl ?_
                exact S10.out.ends (by omega) (by omega)
              have dq : (s == 0) = false := by simpa using hs0
              by_cases hs1 : s = 1
              · subst hs1
                have dr : ((1 : Int) == 1) = true := rfl
                have e1 := S9.out.hk.c (i := 1) rfl
                have HAS : Hid (∀ W', Chg w9 W' c (c + 1) → W'.cell? ⟨kb, 1, none⟩ = some (.slice (some ⟨g, 0, none⟩) j cp)) := fun W' q => (S9.out.hk.chg q (Or.inr (by have := S9.out.hlt; omega))).c (i := 1) rfl
                go_wp2_with fail
                go_region_held3 (fun W' => W'.cell? ⟨kb, 1, none⟩ = some (.slice (some ⟨g, 0, none⟩) j cp)) (first | with_reducible exact S11.out.hk.c (i := 1) rfl | with_reducible exact HAS.out _ Q10.out | with_reducible exact HAS.out _ (Old.toChg (Below.drew (Old.refl _)) _ _) | with_reducible exact HAS.out _ (Old.toChg ((Old.refl _).alloc _) _ _) | with_reducible exact HAS.out _ (Old.toChg (Below.drew ((Old.refl _).alloc _)) _ _) | with_reducible exact HAS.out _ (Old.toChg ((Below.drew (Old.refl _)).alloc _) _ _) | with_reducible exact HAS.out _ (Old.toChg (Old.refl _) _ _)) (first | (go_at_call 53; refine (among_c (S9.out.hc.old (Below.drew ((Old.refl w9).alloc _))) (by omega) hl _ [-1, 268435456] (by decide) (by decide) ((row_lit3 w9 [-1, 268435456] (by decide) 3).old (Below.drew (Old.refl _))) (fun b o n cap e => by have hcc := S9.out.hc.lt; injection e with e1; injection e1 with e2; injection e2 with e3; omega)).mono ?_; rintro e w10 ⟨⟨y, hy, rfl⟩, q10, C10⟩; have Q10 := hid ((Old.toChg (Below.drew ((Old.refl w9).alloc _)) c (c + 1)).trans q10); have S10 := hid (S9.out.draw Q10.out C10); have k2 := (S10.out.cell 0 hj0).1; have k3 := (S10.out.cell 0 hj0).2; have S11 := hid (S10.out.limb 0 y); clear q10 C10) | fail)
                have e0 := S11.out.hk.c (i := 0) rfl
                have e1 := S11.out.hk.c (i := 1) rfl
                have r0 := S11.out.hr.c (i := 0) rfl
                have r1 := S11.out.hr.c (i := 1) rfl
                have t0 := frozen_of_row _ _ 0 _ _ S11.out.hr
                have t1 := frozen_of_row _ _ 1 _ _ S11.out.hr
                go_wp2_with fail
                have q0 := (bk_put1W (bk_put0W S11.out.hr (.bool nb)) (.slice (some ⟨g, 0, none⟩) j cp)).c (i := 0) rfl
                have q1 := (bk_put1W (bk_put0W S11.out.hr (.bool nb)) (.slice (some ⟨g, 0, none⟩) j cp)).c (i := 1) rfl
                refine bodyPost_ret (v := .agg #[.bool nb, .slice (some ⟨g, 0, none⟩) j cp]) (by simp [results, Tryz.results33, go_sem, q0, q1]) rfl ?_
                exact S11.out.ends (by omega) (by omega)
              have dr : (s == 1) = false := by simpa using hs1
              have e0 := S9.out.hk.c (i := 0) rfl
              have e1 := S9.out.hk.c (i := 1) rfl
              have r0 := S9.out.hr.c (i := 0) rfl
              have r1 := S9.out.hr.c (i := 1) rfl
              have t0 := frozen_of_row _ _ 0 _ _ S9.out.hr
              have t1 := frozen_of_row _ _ 1 _ _ S9.out.hr
              go_wp2_with fail
              have q0 := (bk_put1W (bk_put0W S9.out.hr (.bool nb)) (.slice (some ⟨g, 0, none⟩) j cp)).c (i := 0) rfl
              have q1 := (bk_put1W (bk_put0W S9.out.hr (.bool nb)) (.slice (some ⟨g, 0, none⟩) j cp)).c (i := 1) rfl
              refine bodyPost_ret (v := .agg #[.bool nb, .slice (some ⟨g, 0, none⟩) j cp]) (by simp [results, Tryz.results33, go_sem, q0, q1]) rfl ?_
              exact S9.out.ends (by omega) (by omega)
          · have dl : (ℓ == 0) = false := by simpa using hz
            have c8 := one_c S1.out.hc (by omega) hl 2 (by omega) (by omega)
            go_wp2_with fail
            refine c8.mono ?_
            rintro e w8 ⟨⟨nb, rfl⟩, gq, Cq⟩
            have S5 := hid (S1.out.draw gq Cq)
            clear gq Cq c8 S1
            have p0 := S5.out.hk.c (i := 0) rfl
            have p1 := frozen_of_row _ _ 0 _ _ S5.out.hk
            have S6 := hid (S5.out.neg nb)
            have c9 := pick_c S6.out.hc (by omega) hl 60 (by omega) (by omega)
            go_wp2_with fail
            refine c9.mono ?_
            rintro e w9 ⟨⟨s, hs, rfl⟩, gq, Cq⟩
            have S9 := hid (S6.out.draw gq Cq)
            clear gq Cq c9 S6
            by_cases hs0 : s = 0
            · subst hs0
              have p0 := S9.out.hk.c (i := 0) rfl
              have p1 := frozen_of_row _ _ 0 _ _ S9.out.hk
              have S10 := hid (S9.out.neg true)
              have dq : ((0 : Int) == 0) = true := rfl
              have e0 := S10.out.hk.c (i := 0) rfl
              have e1 := S10.out.hk.c (i := 1) rfl
              have r0 := S10.out.hr.c (i := 0) rfl
              have r1 := S10.out.hr.c (i := 1) rfl
              have t0 := frozen_of_row _ _ 0 _ _ S10.out.hr
              have t1 := frozen_of_row _ _ 1 _ _ S10.out.hr
              go_wp2_with fail
              have q0 := (bk_put1W (bk_put0W S10.out.hr (.bool true)) (.slice (some ⟨g, 0, none⟩) j cp)).c (i := 0) rfl
              have q1 := (bk_put1W (bk_put0W S10.out.hr (.bool true)) (.slice (some ⟨g, 0, none⟩) j cp)).c (i := 1) rfl
              refine bodyPost_ret (v := .agg #[.bool true, .slice (some ⟨g, 0, none⟩) j cp]) (by simp [results, Tryz.results33, go_sem, q0, q1]) rfl ?_
              exact S10.out.ends (by omega) (by omega)
            have dq : (s == 0) = false := by simpa using hs0
            by_cases hs1 : s = 1
            · subst hs1
              have dr : ((1 : Int) == 1) = true := rfl
              have e1 := S9.out.hk.c (i := 1) rfl
              have HAS : Hid (∀ W', Chg w9 W' c (c + 1) → W'.cell? ⟨kb, 1, none⟩ = some (.slice (some ⟨g, 0, none⟩) j cp)) := fun W' q => (S9.out.hk.chg q (Or.inr (by have := S9.out.hlt; omega))).c (i := 1) rfl
              go_wp2_with fail
              go_region_held3 (fun W' => W'.cell? ⟨kb, 1, none⟩ = some (.slice (some ⟨g, 0, none⟩) j cp)) (first | with_reducible exact S11.out.hk.c (i := 1) rfl | with_reducible exact HAS.out _ Q10.out | with_reducible exact HAS.out _ (Old.toChg (Below.drew (Old.refl _)) _ _) | with_reducible exact HAS.out _ (Old.toChg ((Old.refl _).alloc _) _ _) | with_reducible exact HAS.out _ (Old.toChg (Below.drew ((Old.refl _).alloc _)) _ _) | with_reducible exact HAS.out _ (Old.toChg ((Below.drew (Old.refl _)).alloc _) _ _) | with_reducible exact HAS.out _ (Old.toChg (Old.refl _) _ _)) (first | (go_at_call 53; refine (among_c (S9.out.hc.old (Below.drew ((Old.refl w9).alloc _))) (by omega) hl _ [-1, 268435456] (by decide) (by decide) ((row_lit3 w9 [-1, 268435456] (by decide) 3).old (Below.drew (Old.refl _))) (fun b o n cap e => by have hcc := S9.out.hc.lt; injection e with e1; injection e1 with e2; injection e2 with e3; omega)).mono ?_; rintro e w10 ⟨⟨y, hy, rfl⟩, q10, C10⟩; have Q10 := hid ((Old.toChg (Below.drew ((Old.refl w9).alloc _)) c (c + 1)).trans q10); have S10 := hid (S9.out.draw Q10.out C10); have k2 := (S10.out.cell 0 hj0).1; have k3 := (S10.out.cell 0 hj0).2; have S11 := hid (S10.out.limb 0 y); clear q10 C10) | fail)
              have e0 := S11.out.hk.c (i := 0) rfl
              have e1 := S11.out.hk.c (i := 1) rfl
              have r0 := S11.out.hr.c (i := 0) rfl
              have r1 := S11.out.hr.c (i := 1) rfl
              have t0 := frozen_of_row _ _ 0 _ _ S11.out.hr
              have t1 := frozen_of_row _ _ 1 _ _ S11.out.hr
              go_wp2_with fail
              have q0 := (bk_put1W (bk_put0W S11.out.hr (.bool nb)) (.slice (some ⟨g, 0, none⟩) j cp)).c (i := 0) rfl
              have q1 := (bk_put1W (bk_put0W S11.out.hr (.bool nb)) (.slice (some ⟨g, 0, none⟩) j cp)).c (i := 1) rfl
              refine bodyPost_ret (v := .agg #[.bool nb, .slice (some ⟨g, 0, none⟩) j cp]) (by simp [results, Tryz.results33, go_sem, q0, q1]) rfl ?_
              exact S11.out.ends (by omega) (by omega)
            have dr : (s == 1) = false := by simpa using hs1
            have e0 := S9.out.hk.c (i := 0) rfl
            have e1 := S9.out.hk.c (i := 1) rfl
            have r0 := S9.out.hr.c (i := 0) rfl
            have r1 := S9.out.hr.c (i := 1) rfl
            have t0 := frozen_of_row _ _ 0 _ _ S9.out.hr
            have t1 := frozen_of_row _ _ 1 _ _ S9.out.hr
            go_wp2_with fail
            have q0 := (bk_put1W (bk_put0W S9.out.hr (.bool nb)) (.slice (some ⟨g, 0, none⟩) j cp)).c (i := 0) rfl
            have q1 := (bk_put1W (bk_put0W S9.out.hr (.bool nb)) (.slice (some ⟨g, 0, none⟩) j cp)).c (i := 1) rfl
            refine bodyPost_ret (v := .agg #[.bool nb, .slice (some ⟨g, 0, none⟩) j cp]) (by simp [results, Tryz.results33, go_sem, q0, q1]) rfl ?_
            exact S9.out.ends (by omega) (by omega)
end Go.Proofs.YtfcdfielbpdloaaGreatDoor
