/- Proved: several texts in one: what each proves is said ahead of it. -/
import Derived.Test.YtfcdfielbpdloaaDoorDcu
import Derived.Deep.RegionHeld3
import Derived.Deep.DeepCutAuto
import Derived.Deep.CutRange
/- Proved: the contract of the draw of a whole number: some sign and at most 41 numbers are told, nothing panics, and nothing that was there changes but the cursor. -/
namespace Go.Proofs.YtfcdfielbpdloaaDoor
open Go.ChangeShapes Go.WideShapes Go.ChangeAt Go.RowKit
set_option linter.unusedVariables false
set_option linter.unusedSimpArgs false
theorem lit1CW (w : World) (x : Value) (t : TypeId) : ∀ j u, [x][j]? = some u → (w.alloc (.cells #[x] t)).cell? ((⟨w.heap.size, 0, none⟩ : Addr).add j) = some u := by
  intro j u h
  match j, h with
  | 0, h =>
    have : x = u := by simpa using h
    subst this
    exact cell_at w _ _ _ _ rfl
  | j + 1, h => simp at h
theorem lit1OW (x : Int) : ∀ u ∈ [Value.int .i64 x], u.oneCell' = true := by simp [Value.oneCell']
theorem sliceOfRowW {w : World} {base n : Nat} {v : Value} {cs : List Value} (h : w.ownsRow base 3 1 v n cs) : ∃ a c, v = .slice a n c := by
  rcases h.2 with ⟨h1, h2⟩ | ⟨g, cap, cur, h1, _⟩
  · exact ⟨none, 0, by rw [h1, h2]⟩
  · exact ⟨_, cap, h1⟩
theorem u64_ofW (x : Int) : ∃ X : Int, (0 ≤ X ∧ X ≤ 18446744073709551615) ∧ IntKind.u64.wrap x = X := by
  refine ⟨_, ?_, rfl⟩
  simp only [IntKind.wrap_u64]
  omega
theorem row_far {w w' : World} {base n : Nat} {v : Value} {cs : List Value} (h : w.ownsRow base 3 1 v n cs) (hf : ∀ b, base ≤ b → b < w.heap.size → w'.heap[b]? = w.heap[b]?) : w'.ownsRow base 3 1 v n cs := by
  refine ⟨h.1, ?_⟩
  rcases h.2 with hn | ⟨p, cap, cur, rfl, hb, hgg, rest⟩
  · exact .inl hn
  · exact .inr ⟨p, cap, cur, rfl, hb, (hf p hb (Array.getElem?_eq_some_iff.1 hgg).1).trans hgg, rest⟩
theorem hid {P : Prop} (h : P) : Hid P := h
end Go.Proofs.YtfcdfielbpdloaaDoor
/- Proved: contracts of the draws of two whole numbers: two signs and two lists of at most 41 numbers are told, nothing panics, and nothing that was there changes. -/
namespace Go.Proofs.YtfcdfielbpdloaaDoor
open Go.ChangeShapes Go.WideShapes Go.ChangeAt Go.RowKit
set_option linter.unusedVariables false
set_option linter.unusedSimpArgs false
theorem bysW_oldX {w w' : World} {v : Value} {len : Nat} (h : BysW w v len) (g : Old w w') : BysW w' v len := by
  rcases h with h1 | ⟨b, o, cap, e, hb, hc⟩
  · exact Or.inl h1
  · refine Or.inr ⟨b, o, cap, e, Nat.lt_of_lt_of_le hb g.size, fun j hj => ?_⟩
    obtain ⟨x, hx, hxc⟩ := hc j hj
    exact ⟨x, hx, (g.cell (p := ⟨b, o + j, none⟩) hb).trans hxc⟩
def RwB (lo hi : Nat) (W : World) (v : Value) (xs : List Int) : Prop := Row W v xs ∧ ∀ b o n cap, v = .slice (some ⟨b, o, none⟩) n cap → n = 0 ∨ (lo ≤ b ∧ b < hi)
theorem RwB.old {lo hi : Nat} {W W' : World} {v : Value} {xs : List Int} (h : RwB lo hi W v xs) (g : Old W W') : RwB lo hi W' v xs := ⟨h.1.old g, h.2⟩
theorem RwB.chg {lo hi l r : Nat} {W W' : World} {v : Value} {xs : List Int} (h : RwB lo hi W v xs) (g : Chg W W' l r) (hr : r ≤ lo ∨ hi ≤ l) : RwB lo hi W' v xs := by
  refine ⟨?_, h.2⟩
  rcases h.1 with h1 | ⟨b, o, cap, e, hb, h0, hc⟩
  · exact .inl h1
  · have hne := h.2 b o _ cap e
    refine .inr ⟨b, o, cap, e, Nat.lt_of_lt_of_le hb g.size, h0, fun j hj => ?_⟩
    have hbl := g.block b hb (by omega)
    rw [← hc j hj]
    unfold World.cell?
    simp only [hbl]
theorem RwB.mono {lo hi lo' hi' : Nat} {W : World} {v : Value} {xs : List Int} (h : RwB lo hi W v xs) (hl : lo' ≤ lo) (hh : hi ≤ hi') : RwB lo' hi' W v xs := ⟨h.1, fun b o n cap e => (h.2 b o n cap e).imp id (fun h1 => by omega)⟩
theorem RwB.own {lo : Nat} {W : World} {v : Value} {xs : List Int} (h : Own W lo v xs) : RwB lo W.heap.size W v xs := ⟨Own.row h, fun b o n cap e => by
  rcases h.2 with ⟨h1, _⟩ | ⟨g, cap', cur, e1, hb, hgg, _⟩
  · rw [h1] at e; cases e
  · rw [e1] at e
    injection e with e2
    injection e2 with e3
    injection e3 with e4
    have := (Array.getElem?_eq_some_iff.1 hgg).1
    exact .inr (by omega)⟩
theorem RwB.set {lo hi : Nat} {W : World} {v : Value} {xs : List Int} (h : RwB lo hi W v xs) {p : Addr} (hp : p.block < lo ∨ hi ≤ p.block) (x : Value) : RwB lo hi (W.setCell p x) v xs :=
  h.chg (⟨rfl, rfl, rfl, by rw [World.size_setCell]; exact Nat.le_refl _, fun b _ ho => heap_setCell_other _ _ _ _ (by show b ≠ p.block; omega)⟩ : Chg W (W.setCell p x) p.block (p.block + 1)) (by omega)
end Go.Proofs.YtfcdfielbpdloaaDoor
/- Proved: the contract of the draw of residues: a list as long as the basis or one longer is told, nothing panics, and nothing that was there changes but the cursor. -/
namespace Go.Proofs.YtfcdfielbpdloaaDoor
open Go.ChangeShapes Go.WideShapes Go.ChangeAt Go.RowKit
set_option linter.unusedVariables false
set_option linter.unusedSimpArgs false
structure RSt (w : World) (code : Value) (len c n B : Nat) (a : Option Addr) (cp : Nat) (xs : List Int) (W : World) : Prop where
  hl : xs.length = n
  ho : W.ownsRow w.heap.size 3 1 (.slice a n cp) n (xs.map (Value.int .i64))
  hc : Cu W code len c B
  hg : Chg w W c (c + 1)
  hcl : c < w.heap.size
theorem RSt.new {w W : World} {code : Value} {len c B : Nat} (h : Cu W code len c B) (g : Chg w W c (c + 1)) (hc : c < w.heap.size) : RSt w code len c 0 B none 0 [] W :=
  ⟨rfl, ⟨rfl, .inl ⟨rfl, rfl⟩⟩, h, g, hc⟩
theorem RSt.draw {w W W' : World} {code : Value} {len c n B B' : Nat} {a : Option Addr} {cp : Nat} {xs : List Int} (h : RSt w code len c n B a cp xs W) (g : Chg W W' c (c + 1)) (C : Cu W' code len c B') : RSt w code len c n B' a cp xs W' :=
  ⟨h.hl, row_far h.ho (fun b hb hb2 => g.block b hb2 (Or.inr (by have := h.hcl; omega))), C, h.hg.trans g, h.hcl⟩
theorem RSt.mono {w W : World} {code : Value} {len c n B B' : Nat} {a : Option Addr} {cp : Nat} {xs : List Int} (h : RSt w code len c n B a cp xs W) (hB : B ≤ B') : RSt w code len c n B' a cp xs W := { h with hc := h.hc.mono hB }
theorem RSt.push {w W w6 : World} {code : Value} {len c n B : Nat} {a a5 : Option Addr} {cp c5 : Nat} {xs : List Int} (y : Int) (h : RSt w code len c n B a cp xs W) (o5 : w6.ownsRow w.heap.size 3 1 (.slice a5 (n + 1) c5) (n + 1) (xs.map (Value.int .i64) ++ [Value.int .i64 y])) (g5 : (W.alloc (.cells #[.int .i64 y] 3)).grownBy w6 (Value.slice a n cp).ownBlock) : RSt w code len c (n + 1) B a5 c5 (xs ++ [y]) w6 := by
  have hob : ∀ j, (Value.slice a n cp).ownBlock = some j → w.heap.size ≤ j := fun j e => by
    rcases h.ho.2 with ⟨h1, _⟩ | ⟨g', cap, cur, e1, hb, _⟩
    · rw [h1] at e
      cases e
    · rw [e1] at e
      have : g' = j := Option.some.inj e
      omega
  have := h.hcl
  refine ⟨by rw [List.length_append, h.hl]; rfl, by rw [List.map_append]; exact o5, (h.hc.old ((Old.refl W).alloc _)).grown g5 (fun j e => by have := hob j e; omega), chg_grown (chg_alloc h.hg _) g5 hob, h.hcl⟩
theorem RSt.set {w W : World} {code : Value} {len c n B g : Nat} {cp : Nat} {xs : List Int} (h : RSt w code len c n B (some ⟨g, 0, none⟩) cp xs W) (i : Nat) (y : Int) : RSt w code len c n B (some ⟨g, 0, none⟩) cp (xs.set i y) (W.setCell ⟨g, i, none⟩ (.int .i64 y)) := by
  have hgk : w.heap.size ≤ g := by
    rcases h.ho.2 with ⟨h1, _⟩ | ⟨g', cap, cur, e, hb, _⟩
    · cases h1
    · injection e with e1
      injection e1 with e2
      injection e2 with e3
      omega
  have st := (World.ownsRow.stored h.ho i (.int .i64 y)).1
  have := h.hcl
  refine ⟨by rw [List.length_set]; exact h.hl, ?_, cu_own h.hc (by show c < g; omega) _, chg_own h.hg (by show w.heap.size ≤ g; omega) _, h.hcl⟩
  rw [List.map_set]
  simpa using st
theorem RSt.cell {w W : World} {code : Value} {len c n B g : Nat} {cp : Nat} {xs : List Int} (h : RSt w code len c n B (some ⟨g, 0, none⟩) cp xs W) (i : Nat) (hi : i < n) : W.cell? ⟨g, i, none⟩ = some (.int .i64 (xs.getD i 0)) ∧ W.frozen? ⟨g, i, none⟩ = false := by
  have hx : i < xs.length := by rw [h.hl]; exact hi
  have h1 := World.ownsRow.cellAt h.ho i (by omega)
  have h2 := World.ownsRow.frozenAt h.ho i
  refine ⟨?_, by simpa using h2⟩
  have h3 : W.cell? ⟨g, i, none⟩ = (xs.map (Value.int .i64))[i]? := by simpa using h1
  rw [h3]
  simp [List.getD, hx]
theorem RSt.addr {w W : World} {code : Value} {len c n B : Nat} {a : Option Addr} {cp : Nat} {xs : List Int} (h : RSt w code len c n B a cp xs W) (hn : 0 < n) : ∃ g, a = some ⟨g, 0, none⟩ := by
  rcases h.ho.2 with ⟨h1, h2⟩ | ⟨g, cap, cur, e, _⟩
  · omega
  · injection e with e1
    exact ⟨g, e1⟩
def CuR (M : Nat) (Z : Int → Prop) (w : World) (code : Value) (len c B : Nat) (e : Ending) (w' : World) : Prop :=
  ∃ a cp xs, e = .returned (.slice a xs.length cp) ∧ xs.length ≤ M ∧ (∀ x ∈ xs, Z x) ∧ Chg w w' c (c + 1) ∧ Cu w' code len c B ∧ Own w' w.heap.size (.slice a xs.length cp) xs
theorem RSt.ends {w W : World} {code : Value} {len c n B B' M : Nat} {Z : Int → Prop} {a : Option Addr} {cp : Nat} {xs : List Int} (h : RSt w code len c n B a cp xs W) (hn : n ≤ M) (hZ : ∀ x ∈ xs, Z x) (hB : B ≤ B') : CuR M Z w code len c B' (.returned (.slice a n cp)) W :=
  ⟨a, cp, xs, by rw [h.hl], by rw [h.hl]; exact hn, hZ, h.hg, h.hc.mono hB, by unfold Own; rw [h.hl]; exact h.ho⟩
theorem RSt.owns {w W : World} {code : Value} {len c n B : Nat} {a : Option Addr} {cp : Nat} {xs : List Int} (h : RSt w code len c n B a cp xs W) (o : Obj) : (W.alloc o).ownsRow w.heap.size 3 1 (.slice a n cp) n (xs.map (Value.int .i64)) := row_far h.ho (fun b _ hb => heap_alloc_old W o hb)
set_option maxRecDepth 100000 in
set_option maxHeartbeats 8000000 in
theorem residues_c {w : World} {code : Value} {len c B lo hi0 : Nat} (h : Cu w code len c B) (hB : B ≤ 34359738368) (hl : len ≤ 9223372036854775807) (v : Value) (ls : List Int) (hv : RwB lo hi0 w v ls) (hlo : c < lo) (hls : ls.length ≤ 20) (hb : ∀ x ∈ ls, -1000 ≤ x ∧ x ≤ 268435456) :
    Calls Tryd.prog 16 #[.pointer (some ⟨c, 0, none⟩), v] w fun e w' => CuR (ls.length + 1) (fun x => -1 ≤ x ∧ x ≤ 268435456) w code len c (B + 1000) e w' := by
  obtain ⟨i0, hi, hz0, hz1, hz2⟩ := info_parts Tryd.infoInt
  have hcw := h.lt
  have S0 : Hid (RSt w code len c 0 B none 0 [] w) := RSt.new h ((Old.refl w).toChg _ _) hcw
  obtain ⟨va, vc, ev⟩ := hv.1.slice
  subst ev
  have HV := hid hv
  have HB := hid hb
  obtain ⟨L, hL⟩ : ∃ L, ls.length = L := ⟨_, rfl⟩
  have HLL : Hid (ls.length = L) := hL
  rw [hL] at HV hls
  rw [hL]
  clear h hv hb hL
  go_enter Tryd.func16, Tryd.ntmps16
  go_wp2_with fail
  go_loopw [5, 11] (fun rv iv W' => ∃ (j : Nat) (a : Option Addr) (cp : Nat) (xs : List Int), j ≤ L ∧ iv = .int .i64 (j : Int) ∧ rv = .slice a j cp ∧ Hid (∀ x ∈ xs, -1 ≤ x ∧ x ≤ 268435456) ∧ Hid (RSt w code len c j (B + 20 * j) a cp xs W')) (fun _ iv _ => L - (intOf iv).toNat)
  case atStart => exact ⟨0, none, 0, [], by omega, rfl, rfl, (fun x hx => by cases hx), S0⟩
  case round =>
    obtain ⟨j, a, cp, xs, hj, rfl, rfl, HX, S1⟩ := hrel
    clear S0
    by_cases hlt : j < L
    · have d1 : decide ((j : Int) < (L : Int)) = true := decide_eq_true (by omega)
      have HV1 := hid (HV.out.chg S1.out.hg (Or.inl (by omega)))
      obtain ⟨b, o, eva, hvb, hvc⟩ : ∃ b o, va = some ⟨b, o, none⟩ ∧ b < wr.heap.size ∧ ∀ i, i < ls.length → wr.cell? ⟨b, o + i, none⟩ = some (.int .i64 (ls.getD i 0)) := by
        rcases HV1.out.1 with ⟨a', c', e1, e2⟩ | ⟨b, o, cap, e, hb, h0, hc⟩
        · rw [e2] at HLL
          have := HLL.out
          simp at this
          omega
        · injection e with e1
          exact ⟨b, o, e1, hb, hc⟩
      subst eva
      have cv := hvc j (by rw [HLL.out]; exact hlt)
      have hpb := HB.out (ls.getD j 0) (by have := HLL.out; simp [List.getD, show j < ls.length by omega])
      obtain ⟨p, hp⟩ : ∃ p, ls.getD j 0 = p := ⟨_, rfl⟩
      rw [hp] at cv hpb
      clear hp hvc HV1
      by_cases hp1 : p < 1
      · have d2 : decide (p < 1) = true := decide_eq_true hp1
        go_wp2_with (first | (at_builtin; go_loud (refine wpList_append_own _ rfl _ _ 23 rfl w.heap.size 3 i0 (.int .i64 0) 1 8 Tryd.underlying23 hi hz0 hz1 hz2 rfl (by decide) _ _ _ rfl (S1.out.owns (.cells #[.int .i64 0] 3)) ⟨wr.heap.size, 0, none⟩ 1 1 [.int .i64 0] rfl rfl (lit1CW _ _ _) (lit1OW _) (by unfold maxLen; omega) (by omega) (by have := S1.out.hg.size; simp; omega) ?_; intro v5 w6 o5 g5 x5; obtain ⟨a5, c5, rfl⟩ := sliceOfRowW o5; have S7 := hid (S1.out.push 0 o5 g5); clear o5 g5 x5)))
        exact ⟨⟨j + 1, a5, c5, xs ++ [0], by omega, by go_num, rfl, (fun x hx => by rcases List.mem_append.1 hx with h1 | h1; exact HX.out x h1; simp at h1; subst h1; omega), hid (S7.out.mono (by omega))⟩, by simp [intOf]; omega⟩
      · have d2 : decide (p < 1) = false := decide_eq_false hp1
        have c4 := wide_c S1.out.hc (by omega) hl
        go_wp2_with fail
        refine c4.mono ?_
        rintro e w4 ⟨⟨x4, hx4, rfl⟩, gq, Cq⟩
        have S2 := hid (S1.out.draw gq Cq)
        clear gq Cq c4 S1 cv
        obtain ⟨X, hX, rX⟩ := u64_ofW x4
        have wp : IntKind.u64.wrap p = p := by rw [IntKind.wrap_u64]; omega
        have dz : (p == 0) = false := by rw [beq_eq_false_iff_ne]; omega
        have dz2 : ¬ (p = 0) := by omega
        have m0 := Int.emod_nonneg X (show p ≠ 0 by omega)
        have m1 := Int.emod_lt_of_pos X (show 0 < p by omega)
        obtain ⟨y0, hy0⟩ : ∃ y0, X % p = y0 := ⟨_, rfl⟩
        have hy1 : X.tmod p = y0 := by rw [Int.tmod_eq_emod_of_nonneg hX.1]; exact hy0
        rw [hy0] at m0 m1
        have wy : IntKind.i64.wrap y0 = y0 := by rw [IntKind.wrap_i64]; omega
        have c5 := one_c S2.out.hc (by omega) hl 4 (by omega) (by omega)
        go_wp2_with fail
        refine c5.mono ?_
        rintro e w5 ⟨⟨o, rfl⟩, gq, Cq⟩
        have S3 := hid (S2.out.draw gq Cq)
        clear gq Cq c5 S2 hX rX wp dz dz2 hx4 hy0 hy1 wy
        cases o
        · go_wp2_with (first | (at_builtin; go_loud (refine wpList_append_own _ rfl _ _ 23 rfl w.heap.size 3 i0 (.int .i64 0) 1 8 Tryd.underlying23 hi hz0 hz1 hz2 rfl (by decide) _ _ _ rfl (S3.out.owns (.cells #[.int .i64 y0] 3)) ⟨w5.heap.size, 0, none⟩ 1 1 [.int .i64 y0] rfl rfl (lit1CW _ _ _) (lit1OW _) (by unfold maxLen; omega) (by omega) (by have := S3.out.hg.size; simp; omega) ?_; intro v5 w6 o5 g5 x5; obtain ⟨a5, c5, rfl⟩ := sliceOfRowW o5; have S7 := hid (S3.out.push y0 o5 g5); clear o5 g5 x5)))
          exact ⟨⟨j + 1, a5, c5, xs ++ [y0], by omega, by go_num, rfl, (fun x hx => by rcases List.mem_append.1 hx with h1 | h1; exact HX.out x h1; simp at h1; subst h1; omega), hid (S7.out.mono (by omega))⟩, by simp [intOf]; omega⟩
        · have c6 := among_lit3 S3.out.hc (by omega) hl [0, 1, p - 1] (by simp) (by simp) 3
          go_wp2_with fail
          refine c6.mono ?_
          rintro e w7 ⟨⟨y, hy, rfl⟩, gq, Cq⟩
          have S4 := hid (S3.out.draw gq Cq)
          clear gq Cq c6 S3
          have hyb : -1 ≤ y ∧ y ≤ 268435456 := by simp at hy; omega
          clear hy
          go_wp2_with (first | (at_builtin; go_loud (refine wpList_append_own _ rfl _ _ 23 rfl w.heap.size 3 i0 (.int .i64 0) 1 8 Tryd.underlying23 hi hz0 hz1 hz2 rfl (by decide) _ _ _ rfl (S4.out.owns (.cells #[.int .i64 y] 3)) ⟨w7.heap.size, 0, none⟩ 1 1 [.int .i64 y] rfl rfl (lit1CW _ _ _) (lit1OW _) (by unfold maxLen; omega) (by omega) (by have := S4.out.hg.size; simp; omega) ?_; intro v5 w6 o5 g5 x5; obtain ⟨a5, c5, rfl⟩ := sliceOfRowW o5; have S7 := hid (S4.out.push y o5 g5); clear o5 g5 x5)))
          exact ⟨⟨j + 1, a5, c5, xs ++ [y], by omega, by go_num, rfl, (fun x hx => by rcases List.mem_append.1 hx with h1 | h1; exact HX.out x h1; simp at h1; subst h1; exact hyb), hid (S7.out.mono (by omega))⟩, by simp [intOf]; omega⟩
    · have d1 : decide ((j : Int) < (L : Int)) = false := decide_eq_false (by omega)
      obtain rfl : j = L := by omega
      clear hlt HV HLL HB
      have c8 := one_c S1.out.hc (by omega) hl 40 (by omega) (by omega)
      go_wp2_with fail
      refine c8.mono ?_
      rintro e w8 ⟨⟨o, rfl⟩, gq, Cq⟩
      have S2 := hid (S1.out.draw gq Cq)
      clear gq Cq c8 S1 d1
      cases o
      · have c9 := one_c S2.out.hc (by omega) hl 60 (by omega) (by omega)
        go_wp2_with fail
        refine c9.mono ?_
        rintro e w9 ⟨⟨o, rfl⟩, gq, Cq⟩
        have S9 := hid (S2.out.draw gq Cq)
        clear gq Cq c9 S2
        cases o
        · go_wp2_with fail
          go_ret
          exact S9.out.ends (by omega) HX.out (by omega)
        · rcases Nat.eq_zero_or_pos (j) with hj0 | hj0
          · have d5 : decide ((0 : Int) < (((j : Nat)) : Int)) = false := decide_eq_false (by omega)
            have d6 : decide (0 < j) = false := decide_eq_false (by omega)
            clear hj0
            go_wp2_with fail
            go_ret
            exact S9.out.ends (by omega) HX.out (by omega)
          · have d5 : decide ((0 : Int) < (((j : Nat)) : Int)) = true := decide_eq_true (by omega)
            have d6 : decide (0 < j) = true := decide_eq_true hj0
            obtain ⟨g, rfl⟩ := S9.out.addr hj0
            have k2 := (S9.out.cell 0 hj0).1
            have k3 := (S9.out.cell 0 hj0).2
            have S10 := hid (S9.out.set 0 (-1))
            have hz : (0 : Int) < (((j : Nat)) : Int) := by omega
            have HY : Hid (∀ x ∈ (xs).set 0 (-1), -1 ≤ x ∧ x ≤ 268435456) := fun x hx => by
              rcases List.mem_or_eq_of_mem_set hx with h1 | h1
              · exact HX.out x h1
              · omega
            go_wp2_with fail
            go_ret
            exact S10.out.ends (by omega) HY.out (by omega)
      · go_wp2_with (first | (at_builtin; go_loud (refine wpList_append_own _ rfl _ _ 23 rfl w.heap.size 3 i0 (.int .i64 0) 1 8 Tryd.underlying23 hi hz0 hz1 hz2 rfl (by decide) _ _ _ rfl (S2.out.owns (.cells #[.int .i64 0] 3)) ⟨w8.heap.size, 0, none⟩ 1 1 [.int .i64 0] rfl rfl (lit1CW _ _ _) (lit1OW _) (by unfold maxLen; omega) (by omega) (by have := S2.out.hg.size; simp; omega) ?_; intro v5 w6 o5 g5 x5; obtain ⟨a5, c5, rfl⟩ := sliceOfRowW o5; have S7 := hid (S2.out.push 0 o5 g5); clear o5 g5 x5)))
        have HX7 : Hid (∀ x ∈ xs ++ [0], -1 ≤ x ∧ x ≤ 268435456) := fun x hx => by
          rcases List.mem_append.1 hx with h1 | h1
          · exact HX.out x h1
          · simp at h1
            subst h1
            omega
        have c9 := one_c S7.out.hc (by omega) hl 60 (by omega) (by omega)
        go_wp2_with fail
        refine c9.mono ?_
        rintro e w9 ⟨⟨o, rfl⟩, gq, Cq⟩
        have S9 := hid (S7.out.draw gq Cq)
        clear gq Cq c9 S7
        cases o
        · go_wp2_with fail
          go_ret
          exact S9.out.ends (by omega) HX7.out (by omega)
        · rcases Nat.eq_zero_or_pos (j + 1) with hj0 | hj0
          · omega
          · have d5 : decide ((0 : Int) < (((j + 1 : Nat)) : Int)) = true := decide_eq_true (by omega)
            have d6 : decide (0 < j + 1) = true := decide_eq_true hj0
            obtain ⟨g, rfl⟩ := S9.out.addr hj0
            have k2 := (S9.out.cell 0 hj0).1
            have k3 := (S9.out.cell 0 hj0).2
            have S10 := hid (S9.out.set 0 (-1))
            have hz : (0 : Int) < (((j + 1 : Nat)) : Int) := by omega
            have HY : Hid (∀ x ∈ (xs ++ [0]).set 0 (-1), -1 ≤ x ∧ x ≤ 268435456) := fun x hx => by
              rcases List.mem_or_eq_of_mem_set hx with h1 | h1
              · exact HX7.out x h1
              · omega
            go_wp2_with fail
            go_ret
            exact S10.out.ends (by omega) HY.out (by omega)
end Go.Proofs.YtfcdfielbpdloaaDoor
/- Proved: the contract of the draw of two bases: two lists of one to three numbers are told, nothing panics, and nothing that was there changes but the cursor. -/
namespace Go.Proofs.YtfcdfielbpdloaaDoor
open Go.ChangeShapes Go.WideShapes Go.ChangeAt Go.RowKit
set_option linter.unusedVariables false
set_option linter.unusedSimpArgs false
theorem lit_cells (w : World) (vs : List Value) (t : TypeId) : ∀ j u, vs[j]? = some u → (w.alloc (.cells vs.toArray t)).cell? ((⟨w.heap.size, 0, none⟩ : Addr).add j) = some u := by
  intro j u h
  have h1 : (w.alloc (.cells vs.toArray t)).cell? ⟨w.heap.size, j, none⟩ = some u := by rw [cell_at _ _ _ _ _ rfl]; simpa using h
  by_cases hj : j = 0
  · subst hj
    simpa [Addr.add] using h1
  · simpa [Addr.add, hj] using h1
theorem lit_one (xs : List Int) : ∀ u ∈ xs.map (Value.int .i64), u.oneCell' = true := by
  intro u hu
  obtain ⟨x, _, rfl⟩ := List.mem_map.1 hu
  rfl
theorem RSt.app {w W w6 : World} {code : Value} {len c n k B : Nat} {a a5 : Option Addr} {cp c5 : Nat} {xs : List Int} (ys : List Int) (hk : ys.length = k) (h : RSt w code len c n B a cp xs W) (o5 : w6.ownsRow w.heap.size 3 1 (.slice a5 (n + k) c5) (n + k) (xs.map (Value.int .i64) ++ ys.map (Value.int .i64))) (g5 : W.grownBy w6 (Value.slice a n cp).ownBlock) : RSt w code len c (n + k) B a5 c5 (xs ++ ys) w6 := by
  have hob : ∀ j, (Value.slice a n cp).ownBlock = some j → w.heap.size ≤ j := fun j e => by
    rcases h.ho.2 with ⟨h1, _⟩ | ⟨g', cap, cur, e1, hb, _⟩
    · rw [h1] at e
      cases e
    · rw [e1] at e
      have : g' = j := Option.some.inj e
      omega
  have := h.hcl
  refine ⟨by rw [List.length_append, h.hl, hk], by rw [List.map_append]; exact o5, h.hc.grown g5 (fun j e => by have := hob j e; omega), chg_grown h.hg g5 hob, h.hcl⟩
theorem RSt.old {w W W' : World} {code : Value} {len c n B : Nat} {a : Option Addr} {cp : Nat} {xs : List Int} (h : RSt w code len c n B a cp xs W) (g : Old W W') : RSt w code len c n B a cp xs W' :=
  h.draw (g.toChg _ _) (h.hc.old g)
def AlF (W : World) (g L : Nat) (al : List Int) : Prop := g < W.heap.size ∧ ∀ i, i < L → W.cell? ⟨g, i, none⟩ = some (.int .i64 (al.getD i 0))
theorem AlF.chg {W W' : World} {g L c : Nat} {al : List Int} (h : AlF W g L al) (q : Chg W W' c (c + 1)) (hc : c < g) : AlF W' g L al :=
  ⟨Nat.lt_of_lt_of_le h.1 q.size, fun i hi => by
    rw [← h.2 i hi]
    unfold World.cell?
    simp only [q.block g h.1 (Or.inr (by omega))]⟩
theorem RSt.alf {w W : World} {code : Value} {len c n B g : Nat} {cp : Nat} {xs : List Int} (h : RSt w code len c n B (some ⟨g, 0, none⟩) cp xs W) (hn : 0 < n) : AlF W g n xs ∧ c < g ∧ w.heap.size ≤ g := by
  have hgk : w.heap.size ≤ g := by
    rcases h.ho.2 with ⟨h1, _⟩ | ⟨g', cap, cur, e, hb, _⟩
    · cases h1
    · injection e with e1
      injection e1 with e2
      injection e2 with e3
      omega
  have := h.hcl
  exact ⟨⟨block_lt_of_cell (h.cell 0 hn).1, fun i hi => (h.cell i hi).1⟩, by omega, hgk⟩
theorem RSt.own {w W : World} {code : Value} {len c n B : Nat} {a : Option Addr} {cp : Nat} {xs : List Int} (h : RSt w code len c n B a cp xs W) : Own W w.heap.size (.slice a n cp) xs := by
  unfold Own
  rw [h.hl]
  exact h.ho
theorem own_cap {W : World} {base n cp : Nat} {a : Option Addr} {xs : List Int} (h : Own W base (.slice a n cp) xs) : n ≤ cp := by
  rcases h.2 with ⟨h1, h2⟩ | ⟨g, cap, cur, e, hb, hgg, rest⟩
  · injection h1 with e1 e2 e3
    omega
  · injection e with e1 e2 e3
    subst e3
    omega
def CuTw (w : World) (code : Value) (len c B : Nat) (e : Ending) (w' : World) : Prop :=
  ∃ a ca xs b cb ys, e = .returned (.tuple #[.slice a xs.length ca, .slice b ys.length cb]) ∧ (1 ≤ xs.length ∧ xs.length ≤ 3) ∧ (1 ≤ ys.length ∧ ys.length ≤ 3) ∧ (xs.length ≤ ca ∧ ys.length ≤ cb) ∧ (∀ x ∈ xs, -1000 ≤ x ∧ x ≤ 268435456) ∧ (∀ x ∈ ys, -1000 ≤ x ∧ x ≤ 268435456) ∧ Chg w w' c (c + 1) ∧ Cu w' code len c B ∧ RwB w.heap.size w'.heap.size w' (.slice a xs.length ca) xs ∧ RwB w.heap.size w'.heap.size w' (.slice b ys.length cb) ys
set_option maxRecDepth 100000 in
set_option maxHeartbeats 8000000 in
theorem primes_c (w : World) : Calls Tryd.prog 54 #[] w fun e w' => e = .returned (.slice (some ⟨w.heap.size, 0, none⟩) 10 10) ∧ w' = w.alloc (.cells #[.int .i64 268435361, .int .i64 268435009, .int .i64 268434977, .int .i64 268434721, .int .i64 268434401, .int .i64 268433761, .int .i64 268433569, .int .i64 268433441, .int .i64 268433377, .int .i64 268433057] 3) := by
  go_enter Tryd.func54, Tryd.ntmps54
  go_wp2_with fail
  go_ret
  exact ⟨rfl, rfl⟩
set_option maxRecDepth 100000 in
set_option maxHeartbeats 8000000 in
theorem small_c (w : World) : Calls Tryd.prog 55 #[] w fun e w' => e = .returned (.slice (some ⟨w.heap.size, 0, none⟩) 9 9) ∧ w' = w.alloc (.cells #[.int .i64 97, .int .i64 193, .int .i64 257, .int .i64 353, .int .i64 449, .int .i64 577, .int .i64 641, .int .i64 673, .int .i64 769] 3) := by
  go_enter Tryd.func55, Tryd.ntmps55
  go_wp2_with fail
  go_ret
  exact ⟨rfl, rfl⟩
theorem tw_ends {w w11 w13 W : World} {code : Value} {len c n1 k1 B B' : Nat} {a b : Option Addr} {ca cb : Nat} {xs ys : List Int} (hG : Chg w w13 c (c + 1)) (hc : c < w.heap.size) (h1 : w.heap.size ≤ w11.heap.size) (h2 : w11.heap.size ≤ w13.heap.size) (hx : xs.length = n1) (OA : w13.ownsRow w11.heap.size 3 1 (.slice a n1 ca) n1 (xs.map (Value.int .i64))) (S : RSt w13 code len c k1 B b cb ys W) (hn : 1 ≤ n1 ∧ n1 ≤ 3) (hk : 1 ≤ k1 ∧ k1 ≤ 3) (hX : ∀ x ∈ xs, -1000 ≤ x ∧ x ≤ 268435456) (hY : ∀ x ∈ ys, -1000 ≤ x ∧ x ≤ 268435456) (hB : B ≤ B') : CuTw w code len c B' (.returned (.tuple #[.slice a n1 ca, .slice b k1 cb])) W := by
  have o1 : Own W w11.heap.size (.slice a xs.length ca) xs := by unfold Own; rw [hx]; exact row_far OA (fun b hb hb2 => S.hg.block b hb2 (Or.inr (by omega)))
  have o2 := S.own
  have e2 := S.hl
  rw [← e2] at o2
  exact ⟨a, ca, xs, b, cb, ys, by rw [hx, e2], by omega, by omega, ⟨own_cap o1, own_cap o2⟩, hX, hY, hG.trans S.hg, S.hc.mono hB, (RwB.own o1).mono h1 (Nat.le_refl _), (RwB.own o2).mono (Nat.le_trans h1 h2) (Nat.le_refl _)⟩
theorem tw_put {w w11 w13 W : World} {code : Value} {len c n1 k1 B B' g : Nat} {b : Option Addr} {ca cb : Nat} {xs ys : List Int} (y : Int) (hy : -1000 ≤ y ∧ y ≤ 268435456) (hG : Chg w w13 c (c + 1)) (hc : c < w.heap.size) (h1 : w.heap.size ≤ w11.heap.size) (h2 : w11.heap.size ≤ w13.heap.size) (hx : xs.length = n1) (hn0 : 0 < n1) (OA : w13.ownsRow w11.heap.size 3 1 (.slice (some ⟨g, 0, none⟩) n1 ca) n1 (xs.map (Value.int .i64))) (S : RSt w13 code len c k1 B b cb ys W) (hn : 1 ≤ n1 ∧ n1 ≤ 3) (hk : 1 ≤ k1 ∧ k1 ≤ 3) (hX : ∀ x ∈ xs, -1000 ≤ x ∧ x ≤ 268435456) (hY : ∀ x ∈ ys, -1000 ≤ x ∧ x ≤ 268435456) (hB : B ≤ B') : CuTw w code len c B' (.returned (.tuple #[.slice (some ⟨g, 0, none⟩) n1 ca, .slice b k1 cb])) (W.setCell ⟨g, 0, none⟩ (.int .i64 y)) := by
  have hg : w11.heap.size ≤ g ∧ g < w13.heap.size := by
    rcases OA.2 with ⟨h1, _⟩ | ⟨g', cap, cur, e, hb, hgg, _⟩
    · cases h1
    · injection e with e1
      injection e1 with e2
      injection e2 with e3
      have := (Array.getElem?_eq_some_iff.1 hgg).1
      omega
  have o1 := row_far OA (w' := W) (fun b hb hb2 => S.hg.block b hb2 (Or.inr (by omega)))
  have st := (World.ownsRow.stored o1 0 (.int .i64 y)).1
  have o3 : Own (W.setCell ⟨g, 0, none⟩ (.int .i64 y)) w11.heap.size (.slice (some ⟨g, 0, none⟩) (xs.set 0 y).length ca) (xs.set 0 y) := by
    unfold Own
    rw [List.length_set, hx, List.map_set]
    simpa using st
  have o2 := S.own
  have e2 := S.hl
  rw [← e2] at o2
  refine ⟨some ⟨g, 0, none⟩, ca, xs.set 0 y, b, cb, ys, by rw [List.length_set, hx, e2], by rw [List.length_set]; omega, by omega, ⟨own_cap o3, own_cap o2⟩, fun x hxx => ?_, hY, chg_own (hG.trans S.hg) (by show w.heap.size ≤ g; omega) _, (cu_own S.hc (by show c < g; omega) _).mono hB, (RwB.own o3).mono h1 (Nat.le_refl _), ?_⟩
  · rcases List.mem_or_eq_of_mem_set hxx with h | h
    · exact hX x h
    · omega
  · have r2 := (RwB.own o2).set (p := ⟨g, 0, none⟩) (Or.inl (by show g < w13.heap.size; omega)) (.int .i64 y)
    exact r2.mono (Nat.le_trans h1 h2) (by simp)
set_option maxRecDepth 100000 in
set_option maxHeartbeats 8000000 in
theorem bases_c {w : World} {code : Value} {len c B : Nat} (h : Cu w code len c B) (hB : B ≤ 34359738368) (hl : len ≤ 9223372036854775807) :
    Calls Tryd.prog 14 #[.pointer (some ⟨c, 0, none⟩)] w fun e w' => CuTw w code len c (B + 1000) e w' := by
  obtain ⟨i0, hi, hz0, hz1, hz2⟩ := info_parts Tryd.infoInt
  have hcw := h.lt
  have S0 : Hid (RSt w code len c 0 B (some ⟨w.heap.size, 0, none⟩) 0 [] (w.alloc (.cells #[] 3))) := ⟨rfl, ⟨rfl, .inr ⟨w.heap.size, 0, #[], rfl, Nat.le_refl _, Bk.new' w _ _ rfl, by simp, by simp⟩⟩, h.old ((Old.refl w).alloc _), ((Old.refl w).alloc _).toChg _ _, hcw⟩
  clear h
  go_enter Tryd.func14, Tryd.ntmps14
  go_wp2_with fail
  obtain ⟨wA, hwA⟩ : ∃ wA, w.alloc (.cells #[] 3) = wA := ⟨_, rfl⟩
  rw [hwA] at S0 ⊢
  clear hwA
  refine (primes_c _).mono ?_
  rintro e w2 ⟨rfl, rfl⟩
  have S1 := hid (S0.out.old ((Old.refl _).alloc (.cells #[.int .i64 268435361, .int .i64 268435009, .int .i64 268434977, .int .i64 268434721, .int .i64 268434401, .int .i64 268433761, .int .i64 268433569, .int .i64 268433441, .int .i64 268433377, .int .i64 268433057] 3)))
  clear S0
  go_wp2_with (first | (at_builtin; go_loud (refine wpList_append_own _ rfl _ _ 23 rfl w.heap.size 3 i0 (.int .i64 0) 1 8 Tryd.underlying23 hi hz0 hz1 hz2 rfl (by decide) _ _ _ rfl S1.out.ho ⟨wA.heap.size, 0, none⟩ 10 10 [.int .i64 268435361, .int .i64 268435009, .int .i64 268434977, .int .i64 268434721, .int .i64 268434401, .int .i64 268433761, .int .i64 268433569, .int .i64 268433441, .int .i64 268433377, .int .i64 268433057] rfl rfl (lit_cells wA [.int .i64 268435361, .int .i64 268435009, .int .i64 268434977, .int .i64 268434721, .int .i64 268434401, .int .i64 268433761, .int .i64 268433569, .int .i64 268433441, .int .i64 268433377, .int .i64 268433057] 3) (lit_one [268435361, 268435009, 268434977, 268434721, 268434401, 268433761, 268433569, 268433441, 268433377, 268433057]) (by unfold maxLen; omega) (by omega) (by have := S1.out.hg.size; simp at this ⊢; omega) ?_; intro v5 w6 o5 g5 x5; obtain ⟨a5, c5, rfl⟩ := sliceOfRowW o5; have S2 : Hid (RSt w code len c 10 (B) a5 c5 [268435361, 268435009, 268434977, 268434721, 268434401, 268433761, 268433569, 268433441, 268433377, 268433057] w6) := S1.out.app (k := 10) [268435361, 268435009, 268434977, 268434721, 268434401, 268433761, 268433569, 268433441, 268433377, 268433057] rfl o5 g5; clear o5 g5 x5)))
  clear S1
  refine (small_c _).mono ?_
  rintro e w7 ⟨rfl, rfl⟩
  have S3 := hid (S2.out.old ((Old.refl _).alloc (.cells #[.int .i64 97, .int .i64 193, .int .i64 257, .int .i64 353, .int .i64 449, .int .i64 577, .int .i64 641, .int .i64 673, .int .i64 769] 3)))
  clear S2
  go_wp2_with (first | (at_builtin; go_loud (refine wpList_append_own _ rfl _ _ 23 rfl w.heap.size 3 i0 (.int .i64 0) 1 8 Tryd.underlying23 hi hz0 hz1 hz2 rfl (by decide) _ _ _ rfl S3.out.ho ⟨w6.heap.size, 0, none⟩ 9 9 [.int .i64 97, .int .i64 193, .int .i64 257, .int .i64 353, .int .i64 449, .int .i64 577, .int .i64 641, .int .i64 673, .int .i64 769] rfl rfl (lit_cells w6 [.int .i64 97, .int .i64 193, .int .i64 257, .int .i64 353, .int .i64 449, .int .i64 577, .int .i64 641, .int .i64 673, .int .i64 769] 3) (lit_one [97, 193, 257, 353, 449, 577, 641, 673, 769]) (by unfold maxLen; omega) (by omega) (by have := S3.out.hg.size; simp at this ⊢; omega) ?_; intro v5 w8 o5 g5 x5; obtain ⟨a8, c8, rfl⟩ := sliceOfRowW o5; have S4 : Hid (RSt w code len c 19 (B) a8 c8 [268435361, 268435009, 268434977, 268434721, 268434401, 268433761, 268433569, 268433441, 268433377, 268433057, 97, 193, 257, 353, 449, 577, 641, 673, 769] w8) := S3.out.app (k := 9) [97, 193, 257, 353, 449, 577, 641, 673, 769] rfl o5 g5; clear o5 g5 x5)))
  have c0 := one_c S4.out.hc (by omega) hl 3 (by omega) (by omega)
  refine c0.mono ?_
  rintro e w9 ⟨⟨o, rfl⟩, gq, Cq⟩
  have S5 := hid (S4.out.draw gq Cq)
  clear gq Cq c0 S4 S3
  cases o
  · obtain ⟨gA, egA⟩ := S5.out.addr (by omega)
    subst egA
    obtain ⟨AF, hcg, hwg⟩ := S5.out.alf (by omega)
    obtain ⟨al, hal⟩ : ∃ al : List Int, [268435361, 268435009, 268434977, 268434721, 268434401, 268433761, 268433569, 268433441, 268433377, 268433057, 97, 193, 257, 353, 449, 577, 641, 673, 769] = al := ⟨_, rfl⟩
    have HAB : Hid (∀ i, i < 19 → -1000 ≤ al.getD i 0 ∧ al.getD i 0 ≤ 268435456) := by rw [← hal]; show ∀ i, i < 19 → _; decide
    rw [hal] at AF
    clear hal
    have AL0 := hid AF
    have HG0 := hid S5.out.hg
    have hc0 := S5.out.hc
    clear AF S5
    have c1 := pick_c hc0 (by omega) hl 19 (by omega) (by omega)
    go_wp2_with fail
    refine c1.mono ?_
    rintro e w10 ⟨⟨s, hs, rfl⟩, gq, Cq⟩
    have AL1 := hid (AL0.out.chg gq hcg)
    have HG1 := hid (HG0.out.trans gq)
    have c2 := pick_c Cq (by omega) hl 3 (by omega) (by omega)
    clear gq Cq c1 AL0 HG0 hc0
    go_wp2_with fail
    refine c2.mono ?_
    rintro e w11 ⟨⟨r, hr, rfl⟩, gq, Cq⟩
    have AL2 := hid (AL1.out.chg gq hcg)
    have HG2 := hid (HG1.out.trans gq)
    clear AL1 HG1 c2
    obtain ⟨n1, hn1, er⟩ : ∃ n1 : Nat, (1 ≤ n1 ∧ n1 ≤ 3) ∧ 1 + r = n1 := ⟨(1 + r).toNat, by omega, by omega⟩
    have SA0 : Hid (RSt w11 code len c 0 (B + 2 + 2 + 2) none 0 [] w11) := RSt.new Cq ((Old.refl w11).toChg _ _) (by have := HG2.out.size; omega)
    clear gq Cq hr
    go_wp2_with fail
    try rw [er]
    go_loopw [6, 9] (fun av kv W' => ∃ (j : Nat) (a : Option Addr) (cp : Nat) (xs : List Int), j ≤ n1 ∧ kv = .int .i64 (j : Int) ∧ av = .slice a j cp ∧ Hid (∀ x ∈ xs, -1000 ≤ x ∧ x ≤ 268435456) ∧ Hid (RSt w11 code len c j (B + 2 + 2 + 2) a cp xs W')) (fun _ kv _ => n1 - (intOf kv).toNat)
    case atStart => exact ⟨0, none, 0, [], by omega, rfl, rfl, (fun x hx => by cases hx), SA0⟩
    case round =>
      obtain ⟨j, a, cp, xs, hj, rfl, rfl, HX, S1⟩ := hrel
      clear SA0
      by_cases hlt : j < n1
      · have d1 : decide ((j : Int) < (n1 : Int)) = true := decide_eq_true (by omega)
        have em : (s + (j : Int)).tmod 19 = (s + (j : Int)) % 19 := Int.tmod_eq_emod_of_nonneg (by omega)
        obtain ⟨i, hi1, ei⟩ : ∃ i : Nat, i < 19 ∧ (s + (j : Int)) % 19 = (i : Int) := ⟨((s + (j : Int)) % 19).toNat, by omega, by omega⟩
        rw [ei] at em
        have cv := (AL2.out.chg S1.out.hg hcg).2 i hi1
        have hyb := HAB.out i hi1
        obtain ⟨y, hy⟩ : ∃ y, al.getD i 0 = y := ⟨_, rfl⟩
        rw [hy] at cv hyb
        clear hy
        have hi2 : (i : Int) < 19 := by omega
        go_wp2_with (first | (at_builtin; go_loud (refine wpList_append_own _ rfl _ _ 23 rfl w11.heap.size 3 i0 (.int .i64 0) 1 8 Tryd.underlying23 hi hz0 hz1 hz2 rfl (by decide) _ _ _ rfl (S1.out.owns (.cells #[.int .i64 y] 3)) ⟨wr.heap.size, 0, none⟩ 1 1 [.int .i64 y] rfl rfl (lit1CW _ _ _) (lit1OW _) (by unfold maxLen; omega) (by omega) (by have := S1.out.hg.size; simp; omega) ?_; intro v5 x6 o5 g5 x5; obtain ⟨a5, c5, rfl⟩ := sliceOfRowW o5; have S7 := hid (S1.out.push y o5 g5); clear o5 g5 x5)))
        exact ⟨⟨j + 1, a5, c5, xs ++ [y], by omega, by go_num, rfl, (fun x hx => by rcases List.mem_append.1 hx with h1 | h1; exact HX.out x h1; simp at h1; subst h1; exact hyb), S7⟩, by simp [intOf]; omega⟩
      · have d1 : decide ((j : Int) < (n1 : Int)) = false := decide_eq_false (by omega)
        obtain rfl : j = n1 := by omega
        clear hlt
        have c3 := pick_c S1.out.hc (by omega) hl 3 (by omega) (by omega)
        go_wp2_with fail
        refine c3.mono ?_
        rintro e w13 ⟨⟨r2, hr2, rfl⟩, gq, Cq⟩
        have S2 := hid (S1.out.draw gq Cq)
        have AL3 := hid ((AL2.out.chg S1.out.hg hcg).chg gq hcg)
        have HG3 := hid (HG2.out.trans S2.out.hg)
        have h11 := HG2.out.size
        have h13 := S2.out.hg.size
        obtain ⟨k1, hk1, er2⟩ : ∃ k1 : Nat, (1 ≤ k1 ∧ k1 ≤ 3) ∧ 1 + r2 = k1 := ⟨(1 + r2).toNat, by omega, by omega⟩
        have SB0 : Hid (RSt w13 code len c 0 (B + 2 + 2 + 2 + 2) none 0 [] w13) := RSt.new Cq ((Old.refl w13).toChg _ _) (by omega)
        have OA := hid S2.out.ho
        have hxl := S2.out.hl
        clear gq Cq c3 hr2 S1 d1 S2 AL2 HG2
        go_wp2_with fail
        try rw [er2]
        go_loopw [7, 10] (fun bv kv W' => ∃ (q : Nat) (b : Option Addr) (cb : Nat) (ys : List Int), q ≤ k1 ∧ kv = .int .i64 ((k1 : Int) - (q : Int)) ∧ bv = .slice b q cb ∧ Hid (∀ x ∈ ys, -1000 ≤ x ∧ x ≤ 268435456) ∧ Hid (RSt w13 code len c q (B + 2 + 2 + 2 + 2) b cb ys W')) (fun _ kv _ => (intOf kv).toNat)
        case atStart => exact ⟨0, none, 0, [], by omega, by simp, rfl, (fun x hx => by cases hx), SB0⟩
        case round =>
          obtain ⟨q, b, cb, ys, hq, rfl, rfl, HY, T1⟩ := hrel
          clear SB0
          by_cases hlt : q < k1
          · have d1 : decide ((0 : Int) < (k1 : Int) - (q : Int)) = true := decide_eq_true (by omega)
            have em : (s + (j : Int) + ((k1 : Int) - (q : Int))).tmod 19 = (s + (j : Int) + ((k1 : Int) - (q : Int))) % 19 := Int.tmod_eq_emod_of_nonneg (by omega)
            obtain ⟨i, hi1, ei⟩ : ∃ i : Nat, i < 19 ∧ (s + (j : Int) + ((k1 : Int) - (q : Int))) % 19 = (i : Int) := ⟨((s + (j : Int) + ((k1 : Int) - (q : Int))) % 19).toNat, by omega, by omega⟩
            rw [ei] at em
            have cv := (AL3.out.chg T1.out.hg hcg).2 i hi1
            have hyb := HAB.out i hi1
            obtain ⟨y, hy⟩ : ∃ y, al.getD i 0 = y := ⟨_, rfl⟩
            rw [hy] at cv hyb
            clear hy
            have hi2 : (i : Int) < 19 := by omega
            go_wp2_with (first | (at_builtin; go_loud (refine wpList_append_own _ rfl _ _ 23 rfl w13.heap.size 3 i0 (.int .i64 0) 1 8 Tryd.underlying23 hi hz0 hz1 hz2 rfl (by decide) _ _ _ rfl (T1.out.owns (.cells #[.int .i64 y] 3)) ⟨wr.heap.size, 0, none⟩ 1 1 [.int .i64 y] rfl rfl (lit1CW _ _ _) (lit1OW _) (by unfold maxLen; omega) (by omega) (by have := T1.out.hg.size; simp; omega) ?_; intro v5 x6 o5 g5 x5; obtain ⟨a9, c9, rfl⟩ := sliceOfRowW o5; have T7 := hid (T1.out.push y o5 g5); clear o5 g5 x5)))
            exact ⟨⟨q + 1, a9, c9, ys ++ [y], by omega, by go_num, rfl, (fun x hx => by rcases List.mem_append.1 hx with h1 | h1; exact HY.out x h1; simp at h1; subst h1; exact hyb), T7⟩, by simp [intOf]; omega⟩
          · have d1 : decide ((0 : Int) < (k1 : Int) - (q : Int)) = false := decide_eq_false (by omega)
            obtain rfl : q = k1 := by omega
            clear hlt AL3 HAB
            have c4 := pick_c T1.out.hc (by omega) hl 40 (by omega) (by omega)
            go_wp2_with fail
            refine c4.mono ?_
            rintro e w15 ⟨⟨u, hu, rfl⟩, gq, Cq⟩
            have T2 := hid (T1.out.draw gq Cq)
            clear gq Cq c4 T1 d1
            obtain ⟨ga, rfl⟩ : ∃ ga, a = some ⟨ga, 0, none⟩ := by
              rcases OA.out.2 with ⟨h1, h2⟩ | ⟨g, cap, cur, e, _⟩
              · omega
              · injection e with e1
                exact ⟨g, e1⟩
            obtain ⟨gb, rfl⟩ := T2.out.addr (by omega)
            have hq0 : (0 : Int) < (q : Int) := by omega
            have hj0 : (0 : Int) < (j : Int) := by omega
            by_cases u0 : u = 0
            · subst u0
              have k2 := (T2.out.cell 0 (by omega)).1
              have k3 := (T2.out.cell 0 (by omega)).2
              have OW := row_far OA.out (w' := w15) (fun b hb hb2 => T2.out.hg.block b hb2 (Or.inr (by omega)))
              have k4 : w15.cell? ⟨ga, 0, none⟩ = some (.int .i64 (xs.getD 0 0)) := by
                have h1 := World.ownsRow.cellAt OW 0 (by omega)
                have h3 : w15.cell? ⟨ga, 0, none⟩ = (xs.map (Value.int .i64))[0]? := by simpa using h1
                rw [h3]
                simp [List.getD, show 0 < xs.length by omega]
              have hyb := HX.out (xs.getD 0 0) (by simp [List.getD, show 0 < xs.length by omega])
              obtain ⟨y, hy⟩ : ∃ y, xs.getD 0 0 = y := ⟨_, rfl⟩
              rw [hy] at k4 hyb
              clear hy OW
              have T3 := hid (T2.out.set 0 y)
              have HY3 : Hid (∀ x ∈ ys.set 0 y, -1000 ≤ x ∧ x ≤ 268435456) := fun x hx => by
                rcases List.mem_or_eq_of_mem_set hx with h | h
                · exact HY.out x h
                · omega
              go_wp2_with fail
              refine bodyPost_ret (v := .tuple #[.slice (some ⟨ga, 0, none⟩) j cp, .slice (some ⟨gb, 0, none⟩) q cb]) (by simp [results, Tryd.results14, go_sem]) rfl ?_
              exact tw_ends HG3.out hcw h11 h13 hxl OA.out T3.out (by omega) (by omega) HX.out HY3.out (by omega)
            have du : (u == 0) = false := by rw [beq_eq_false_iff_ne]; exact u0
            by_cases u1 : u = 1
            · subst u1
              have k2 := (T2.out.cell 0 (by omega)).1
              have k3 := (T2.out.cell 0 (by omega)).2
              have T3 := hid (T2.out.set 0 2)
              have HY3 : Hid (∀ x ∈ ys.set 0 2, -1000 ≤ x ∧ x ≤ 268435456) := fun x hx => by
                rcases List.mem_or_eq_of_mem_set hx with h | h
                · exact HY.out x h
                · omega
              go_wp2_with fail
              refine bodyPost_ret (v := .tuple #[.slice (some ⟨ga, 0, none⟩) j cp, .slice (some ⟨gb, 0, none⟩) q cb]) (by simp [results, Tryd.results14, go_sem]) rfl ?_
              exact tw_ends HG3.out hcw h11 h13 hxl OA.out T3.out (by omega) (by omega) HX.out HY3.out (by omega)
            have du1 : (u == 1) = false := by rw [beq_eq_false_iff_ne]; exact u1
            by_cases u2 : u = 2
            · subst u2
              have c6 := among_lit3 T2.out.hc (by omega) hl [2, 9] (by simp) (by simp) 3
              go_wp2_with fail
              refine c6.mono ?_
              rintro e w17 ⟨⟨y, hy, rfl⟩, gq, Cq⟩
              have T3 := hid (T2.out.draw gq Cq)
              clear gq Cq c6 T2
              have hyb : -1000 ≤ y ∧ y ≤ 268435456 := by simp at hy; omega
              clear hy
              have OW := row_far OA.out (w' := w17) (fun b hb hb2 => T3.out.hg.block b hb2 (Or.inr (by omega)))
              have k4 : w17.cell? ⟨ga, 0, none⟩ = some (.int .i64 (xs.getD 0 0)) := by
                have h1 := World.ownsRow.cellAt OW 0 (by omega)
                have h3 : w17.cell? ⟨ga, 0, none⟩ = (xs.map (Value.int .i64))[0]? := by simpa using h1
                rw [h3]
                simp [List.getD, show 0 < xs.length by omega]
              have k5 : w17.frozen? ⟨ga, 0, none⟩ = false := by have := World.ownsRow.frozenAt OW 0; simpa using this
              clear OW
              go_wp2_with fail
              refine bodyPost_ret (v := .tuple #[.slice (some ⟨ga, 0, none⟩) j cp, .slice (some ⟨gb, 0, none⟩) q cb]) (by simp [results, Tryd.results14, go_sem]) rfl ?_
              exact tw_put y hyb HG3.out hcw h11 h13 hxl (by omega) OA.out T3.out (by omega) (by omega) HX.out HY.out (by omega)
            have du2 : (u == 2) = false := by rw [beq_eq_false_iff_ne]; exact u2
            go_wp2_with fail
            refine bodyPost_ret (v := .tuple #[.slice (some ⟨ga, 0, none⟩) j cp, .slice (some ⟨gb, 0, none⟩) q cb]) (by simp [results, Tryd.results14, go_sem]) rfl ?_
            exact tw_ends HG3.out hcw h11 h13 hxl OA.out T2.out (by omega) (by omega) HX.out HY.out (by omega)
  · have S6 := hid (S5.out.old ((Old.refl _).alloc (.cells #[.int .i64 3, .int .i64 5, .int .i64 7, .int .i64 11, .int .i64 13] 3)))
    clear S5
    go_wp2_with (first | (at_builtin; go_loud (refine wpList_append_own _ rfl _ _ 23 rfl w.heap.size 3 i0 (.int .i64 0) 1 8 Tryd.underlying23 hi hz0 hz1 hz2 rfl (by decide) _ _ _ rfl S6.out.ho ⟨w9.heap.size, 0, none⟩ 5 5 [.int .i64 3, .int .i64 5, .int .i64 7, .int .i64 11, .int .i64 13] rfl rfl (lit_cells w9 [.int .i64 3, .int .i64 5, .int .i64 7, .int .i64 11, .int .i64 13] 3) (lit_one [3, 5, 7, 11, 13]) (by unfold maxLen; omega) (by omega) (by have := S6.out.hg.size; simp at this ⊢; omega) ?_; intro v5 w3 o5 g5 x5; obtain ⟨a3, c3, rfl⟩ := sliceOfRowW o5; have S8 : Hid (RSt w code len c 24 (B + 2) a3 c3 [268435361, 268435009, 268434977, 268434721, 268434401, 268433761, 268433569, 268433441, 268433377, 268433057, 97, 193, 257, 353, 449, 577, 641, 673, 769, 3, 5, 7, 11, 13] w3) := S6.out.app (k := 5) [3, 5, 7, 11, 13] rfl o5 g5; clear o5 g5 x5)))
    obtain ⟨gA, egA⟩ := S8.out.addr (by omega)
    subst egA
    obtain ⟨AF, hcg, hwg⟩ := S8.out.alf (by omega)
    obtain ⟨al, hal⟩ : ∃ al : List Int, [268435361, 268435009, 268434977, 268434721, 268434401, 268433761, 268433569, 268433441, 268433377, 268433057, 97, 193, 257, 353, 449, 577, 641, 673, 769, 3, 5, 7, 11, 13] = al := ⟨_, rfl⟩
    have HAB : Hid (∀ i, i < 24 → -1000 ≤ al.getD i 0 ∧ al.getD i 0 ≤ 268435456) := by rw [← hal]; show ∀ i, i < 24 → _; decide
    rw [hal] at AF
    clear hal
    have AL0 := hid AF
    have HG0 := hid S8.out.hg
    have hc0 := S8.out.hc
    clear AF S8
    have c1 := pick_c hc0 (by omega) hl 24 (by omega) (by omega)
    go_wp2_with fail
    refine c1.mono ?_
    rintro e w10 ⟨⟨s, hs, rfl⟩, gq, Cq⟩
    have AL1 := hid (AL0.out.chg gq hcg)
    have HG1 := hid (HG0.out.trans gq)
    have c2 := pick_c Cq (by omega) hl 3 (by omega) (by omega)
    clear gq Cq c1 AL0 HG0 hc0
    go_wp2_with fail
    refine c2.mono ?_
    rintro e w11 ⟨⟨r, hr, rfl⟩, gq, Cq⟩
    have AL2 := hid (AL1.out.chg gq hcg)
    have HG2 := hid (HG1.out.trans gq)
    clear AL1 HG1 c2
    obtain ⟨n1, hn1, er⟩ : ∃ n1 : Nat, (1 ≤ n1 ∧ n1 ≤ 3) ∧ 1 + r = n1 := ⟨(1 + r).toNat, by omega, by omega⟩
    have SA0 : Hid (RSt w11 code len c 0 (B + 2 + 2 + 2) none 0 [] w11) := RSt.new Cq ((Old.refl w11).toChg _ _) (by have := HG2.out.size; omega)
    clear gq Cq hr
    go_wp2_with fail
    try rw [er]
    go_loopw [6, 9] (fun av kv W' => ∃ (j : Nat) (a : Option Addr) (cp : Nat) (xs : List Int), j ≤ n1 ∧ kv = .int .i64 (j : Int) ∧ av = .slice a j cp ∧ Hid (∀ x ∈ xs, -1000 ≤ x ∧ x ≤ 268435456) ∧ Hid (RSt w11 code len c j (B + 2 + 2 + 2) a cp xs W')) (fun _ kv _ => n1 - (intOf kv).toNat)
    case atStart => exact ⟨0, none, 0, [], by omega, rfl, rfl, (fun x hx => by cases hx), SA0⟩
    case round =>
      obtain ⟨j, a, cp, xs, hj, rfl, rfl, HX, S1⟩ := hrel
      clear SA0
      by_cases hlt : j < n1
      · have d1 : decide ((j : Int) < (n1 : Int)) = true := decide_eq_true (by omega)
        have em : (s + (j : Int)).tmod 24 = (s + (j : Int)) % 24 := Int.tmod_eq_emod_of_nonneg (by omega)
        obtain ⟨i, hi1, ei⟩ : ∃ i : Nat, i < 24 ∧ (s + (j : Int)) % 24 = (i : Int) := ⟨((s + (j : Int)) % 24).toNat, by omega, by omega⟩
        rw [ei] at em
        have cv := (AL2.out.chg S1.out.hg hcg).2 i hi1
        have hyb := HAB.out i hi1
        obtain ⟨y, hy⟩ : ∃ y, al.getD i 0 = y := ⟨_, rfl⟩
        rw [hy] at cv hyb
        clear hy
        have hi2 : (i : Int) < 24 := by omega
        go_wp2_with (first | (at_builtin; go_loud (refine wpList_append_own _ rfl _ _ 23 rfl w11.heap.size 3 i0 (.int .i64 0) 1 8 Tryd.underlying23 hi hz0 hz1 hz2 rfl (by decide) _ _ _ rfl (S1.out.owns (.cells #[.int .i64 y] 3)) ⟨wr.heap.size, 0, none⟩ 1 1 [.int .i64 y] rfl rfl (lit1CW _ _ _) (lit1OW _) (by unfold maxLen; omega) (by omega) (by have := S1.out.hg.size; simp; omega) ?_; intro v5 x6 o5 g5 x5; obtain ⟨a5, c5, rfl⟩ := sliceOfRowW o5; have S7 := hid (S1.out.push y o5 g5); clear o5 g5 x5)))
        exact ⟨⟨j + 1, a5, c5, xs ++ [y], by omega, by go_num, rfl, (fun x hx => by rcases List.mem_append.1 hx with h1 | h1; exact HX.out x h1; simp at h1; subst h1; exact hyb), S7⟩, by simp [intOf]; omega⟩
      · have d1 : decide ((j : Int) < (n1 : Int)) = false := decide_eq_false (by omega)
        obtain rfl : j = n1 := by omega
        clear hlt
        have c3 := pick_c S1.out.hc (by omega) hl 3 (by omega) (by omega)
        go_wp2_with fail
        refine c3.mono ?_
        rintro e w13 ⟨⟨r2, hr2, rfl⟩, gq, Cq⟩
        have S2 := hid (S1.out.draw gq Cq)
        have AL3 := hid ((AL2.out.chg S1.out.hg hcg).chg gq hcg)
        have HG3 := hid (HG2.out.trans S2.out.hg)
        have h11 := HG2.out.size
        have h13 := S2.out.hg.size
        obtain ⟨k1, hk1, er2⟩ : ∃ k1 : Nat, (1 ≤ k1 ∧ k1 ≤ 3) ∧ 1 + r2 = k1 := ⟨(1 + r2).toNat, by omega, by omega⟩
        have SB0 : Hid (RSt w13 code len c 0 (B + 2 + 2 + 2 + 2) none 0 [] w13) := RSt.new Cq ((Old.refl w13).toChg _ _) (by omega)
        have OA := hid S2.out.ho
        have hxl := S2.out.hl
        clear gq Cq c3 hr2 S1 d1 S2 AL2 HG2
        go_wp2_with fail
        try rw [er2]
        go_loopw [7, 10] (fun bv kv W' => ∃ (q : Nat) (b : Option Addr) (cb : Nat) (ys : List Int), q ≤ k1 ∧ kv = .int .i64 ((k1 : Int) - (q : Int)) ∧ bv = .slice b q cb ∧ Hid (∀ x ∈ ys, -1000 ≤ x ∧ x ≤ 268435456) ∧ Hid (RSt w13 code len c q (B + 2 + 2 + 2 + 2) b cb ys W')) (fun _ kv _ => (intOf kv).toNat)
        case atStart => exact ⟨0, none, 0, [], by omega, by simp, rfl, (fun x hx => by cases hx), SB0⟩
        case round =>
          obtain ⟨q, b, cb, ys, hq, rfl, rfl, HY, T1⟩ := hrel
          clear SB0
          by_cases hlt : q < k1
          · have d1 : decide ((0 : Int) < (k1 : Int) - (q : Int)) = true := decide_eq_true (by omega)
            have em : (s + (j : Int) + ((k1 : Int) - (q : Int))).tmod 24 = (s + (j : Int) + ((k1 : Int) - (q : Int))) % 24 := Int.tmod_eq_emod_of_nonneg (by omega)
            obtain ⟨i, hi1, ei⟩ : ∃ i : Nat, i < 24 ∧ (s + (j : Int) + ((k1 : Int) - (q : Int))) % 24 = (i : Int) := ⟨((s + (j : Int) + ((k1 : Int) - (q : Int))) % 24).toNat, by omega, by omega⟩
            rw [ei] at em
            have cv := (AL3.out.chg T1.out.hg hcg).2 i hi1
            have hyb := HAB.out i hi1
            obtain ⟨y, hy⟩ : ∃ y, al.getD i 0 = y := ⟨_, rfl⟩
            rw [hy] at cv hyb
            clear hy
            have hi2 : (i : Int) < 24 := by omega
            go_wp2_with (first | (at_builtin; go_loud (refine wpList_append_own _ rfl _ _ 23 rfl w13.heap.size 3 i0 (.int .i64 0) 1 8 Tryd.underlying23 hi hz0 hz1 hz2 rfl (by decide) _ _ _ rfl (T1.out.owns (.cells #[.int .i64 y] 3)) ⟨wr.heap.size, 0, none⟩ 1 1 [.int .i64 y] rfl rfl (lit1CW _ _ _) (lit1OW _) (by unfold maxLen; omega) (by omega) (by have := T1.out.hg.size; simp; omega) ?_; intro v5 x6 o5 g5 x5; obtain ⟨a9, c9, rfl⟩ := sliceOfRowW o5; have T7 := hid (T1.out.push y o5 g5); clear o5 g5 x5)))
            exact ⟨⟨q + 1, a9, c9, ys ++ [y], by omega, by go_num, rfl, (fun x hx => by rcases List.mem_append.1 hx with h1 | h1; exact HY.out x h1; simp at h1; subst h1; exact hyb), T7⟩, by simp [intOf]; omega⟩
          · have d1 : decide ((0 : Int) < (k1 : Int) - (q : Int)) = false := decide_eq_false (by omega)
            obtain rfl : q = k1 := by omega
            clear hlt AL3 HAB
            have c4 := pick_c T1.out.hc (by omega) hl 40 (by omega) (by omega)
            go_wp2_with fail
            refine c4.mono ?_
            rintro e w15 ⟨⟨u, hu, rfl⟩, gq, Cq⟩
            have T2 := hid (T1.out.draw gq Cq)
            clear gq Cq c4 T1 d1
            obtain ⟨ga, rfl⟩ : ∃ ga, a = some ⟨ga, 0, none⟩ := by
              rcases OA.out.2 with ⟨h1, h2⟩ | ⟨g, cap, cur, e, _⟩
              · omega
              · injection e with e1
                exact ⟨g, e1⟩
            obtain ⟨gb, rfl⟩ := T2.out.addr (by omega)
            have hq0 : (0 : Int) < (q : Int) := by omega
            have hj0 : (0 : Int) < (j : Int) := by omega
            by_cases u0 : u = 0
            · subst u0
              have k2 := (T2.out.cell 0 (by omega)).1
              have k3 := (T2.out.cell 0 (by omega)).2
              have OW := row_far OA.out (w' := w15) (fun b hb hb2 => T2.out.hg.block b hb2 (Or.inr (by omega)))
              have k4 : w15.cell? ⟨ga, 0, none⟩ = some (.int .i64 (xs.getD 0 0)) := by
                have h1 := World.ownsRow.cellAt OW 0 (by omega)
                have h3 : w15.cell? ⟨ga, 0, none⟩ = (xs.map (Value.int .i64))[0]? := by simpa using h1
                rw [h3]
                simp [List.getD, show 0 < xs.length by omega]
              have hyb := HX.out (xs.getD 0 0) (by simp [List.getD, show 0 < xs.length by omega])
              obtain ⟨y, hy⟩ : ∃ y, xs.getD 0 0 = y := ⟨_, rfl⟩
              rw [hy] at k4 hyb
              clear hy OW
              have T3 := hid (T2.out.set 0 y)
              have HY3 : Hid (∀ x ∈ ys.set 0 y, -1000 ≤ x ∧ x ≤ 268435456) := fun x hx => by
                rcases List.mem_or_eq_of_mem_set hx with h | h
                · exact HY.out x h
                · omega
              go_wp2_with fail
              refine bodyPost_ret (v := .tuple #[.slice (some ⟨ga, 0, none⟩) j cp, .slice (some ⟨gb, 0, none⟩) q cb]) (by simp [results, Tryd.results14, go_sem]) rfl ?_
              exact tw_ends HG3.out hcw h11 h13 hxl OA.out T3.out (by omega) (by omega) HX.out HY3.out (by omega)
            have du : (u == 0) = false := by rw [beq_eq_false_iff_ne]; exact u0
            by_cases u1 : u = 1
            · subst u1
              have k2 := (T2.out.cell 0 (by omega)).1
              have k3 := (T2.out.cell 0 (by omega)).2
              have T3 := hid (T2.out.set 0 2)
              have HY3 : Hid (∀ x ∈ ys.set 0 2, -1000 ≤ x ∧ x ≤ 268435456) := fun x hx => by
                rcases List.mem_or_eq_of_mem_set hx with h | h
                · exact HY.out x h
                · omega
              go_wp2_with fail
              refine bodyPost_ret (v := .tuple #[.slice (some ⟨ga, 0, none⟩) j cp, .slice (some ⟨gb, 0, none⟩) q cb]) (by simp [results, Tryd.results14, go_sem]) rfl ?_
              exact tw_ends HG3.out hcw h11 h13 hxl OA.out T3.out (by omega) (by omega) HX.out HY3.out (by omega)
            have du1 : (u == 1) = false := by rw [beq_eq_false_iff_ne]; exact u1
            by_cases u2 : u = 2
            · subst u2
              have c6 := among_lit3 T2.out.hc (by omega) hl [2, 9] (by simp) (by simp) 3
              go_wp2_with fail
              refine c6.mono ?_
              rintro e w17 ⟨⟨y, hy, rfl⟩, gq, Cq⟩
              have T3 := hid (T2.out.draw gq Cq)
              clear gq Cq c6 T2
              have hyb : -1000 ≤ y ∧ y ≤ 268435456 := by simp at hy; omega
              clear hy
              have OW := row_far OA.out (w' := w17) (fun b hb hb2 => T3.out.hg.block b hb2 (Or.inr (by omega)))
              have k4 : w17.cell? ⟨ga, 0, none⟩ = some (.int .i64 (xs.getD 0 0)) := by
                have h1 := World.ownsRow.cellAt OW 0 (by omega)
                have h3 : w17.cell? ⟨ga, 0, none⟩ = (xs.map (Value.int .i64))[0]? := by simpa using h1
                rw [h3]
                simp [List.getD, show 0 < xs.length by omega]
              have k5 : w17.frozen? ⟨ga, 0, none⟩ = false := by have := World.ownsRow.frozenAt OW 0; simpa using this
              clear OW
              go_wp2_with fail
              refine bodyPost_ret (v := .tuple #[.slice (some ⟨ga, 0, none⟩) j cp, .slice (some ⟨gb, 0, none⟩) q cb]) (by simp [results, Tryd.results14, go_sem]) rfl ?_
              exact tw_put y hyb HG3.out hcw h11 h13 hxl (by omega) OA.out T3.out (by omega) (by omega) HX.out HY.out (by omega)
            have du2 : (u == 2) = false := by rw [beq_eq_false_iff_ne]; exact u2
            go_wp2_with fail
            refine bodyPost_ret (v := .tuple #[.slice (some ⟨ga, 0, none⟩) j cp, .slice (some ⟨gb, 0, none⟩) q cb]) (by simp [results, Tryd.results14, go_sem]) rfl ?_
            exact tw_ends HG3.out hcw h11 h13 hxl OA.out T2.out (by omega) (by omega) HX.out HY.out (by omega)
end Go.Proofs.YtfcdfielbpdloaaDoor
