/- Proved: several texts in one: what each proves is said ahead of it. -/
import Derived.Test.YtfcdfielbpdloaaGreatDoorDrw
/- Proved: contracts of the draws of two whole numbers: two signs and two lists of at most 41 numbers are told, nothing panics, and nothing that was there changes. -/
namespace Go.Proofs.YtfcdfielbpdloaaGreatDoor
open Go.ChangeShapes Go.WideShapes Go.ChangeAt Go.RowKit
set_option linter.unusedVariables false
set_option linter.unusedSimpArgs false
theorem bysW_oldX {w w' : World} {v : Value} {len : Nat} (h : BysW w v len) (g : Old w w') : BysW w' v len := by
  rcases h with h1 | ⟨b, o, cap, e, hb, hc⟩
  · exact Or.inl h1
  · refine Or.inr ⟨b, o, cap, e, Nat.lt_of_lt_of_le hb g.size, fun j hj => ?_⟩
    obtain ⟨x, hx, hxc⟩ := hc j hj
    exact ⟨x, hx, (g.cell (p := ⟨b, o + j, none⟩) hb).trans hxc⟩
def RwB (lo hi : Nat) (W : World) (v : Value) (xs : List Int) : Prop := Row W v xs ∧ ∀ b o n cap, v = .slice (some ⟨b, o, none⟩) n cap → n = 0 ∨ (lo ≤ b ∧ b < hi)
theorem RwB.chg {lo hi l r : Nat} {W W' : World} {v : Value} {xs : List Int} (h : RwB lo hi W v xs) (g : Chg W W' l r) (hr : r ≤ lo ∨ hi ≤ l) : RwB lo hi W' v xs := by
  refine ⟨?_, h.2⟩
  rcases h.1 with h1 | ⟨b, o, cap, e, hb, h0, hc⟩
  · exact .inl h1
  · have hne := h.2 b o _ cap e
    refine .inr ⟨b, o, cap, e, Nat.lt_of_lt_of_le hb g.size, h0, fun j hj => ?_⟩
    have hbl := g.block b hb (by omega)
    rw [← hc j hj]
    unfold World.cell?
    simp only [hbl]
theorem RwB.mono {lo hi lo' hi' : Nat} {W : World} {v : Value} {xs : List Int} (h : RwB lo hi W v xs) (hl : lo' ≤ lo) (hh : hi ≤ hi') : RwB lo' hi' W v xs := ⟨h.1, fun b o n cap e => (h.2 b o n cap e).imp id (fun h1 => by omega)⟩
theorem RwB.own {lo : Nat} {W : World} {v : Value} {xs : List Int} (h : Own W lo v xs) : RwB lo W.heap.size W v xs := ⟨Own.row h, fun b o n cap e => by
  rcases h.2 with ⟨h1, _⟩ | ⟨g, cap', cur, e1, hb, hgg, _⟩
  · rw [h1] at e; cases e
  · rw [e1] at e
    injection e with e2
    injection e2 with e3
    injection e3 with e4
    have := (Array.getElem?_eq_some_iff.1 hgg).1
    exact .inr (by omega)⟩
theorem RwB.set {lo hi : Nat} {W : World} {v : Value} {xs : List Int} (h : RwB lo hi W v xs) {p : Addr} (hp : p.block < lo ∨ hi ≤ p.block) (x : Value) : RwB lo hi (W.setCell p x) v xs :=
  h.chg (⟨rfl, rfl, rfl, by rw [World.size_setCell]; exact Nat.le_refl _, fun b _ ho => heap_setCell_other _ _ _ _ (by show b ≠ p.block; omega)⟩ : Chg W (W.setCell p x) p.block (p.block + 1)) (by omega)
end Go.Proofs.YtfcdfielbpdloaaGreatDoor
/- Proved: the contract of the draw of residues: a list as long as the basis or one longer is told, nothing panics, and nothing that was there changes but the cursor. -/
namespace Go.Proofs.YtfcdfielbpdloaaGreatDoor
open Go.ChangeShapes Go.WideShapes Go.ChangeAt Go.RowKit
set_option linter.unusedVariables false
set_option linter.unusedSimpArgs false
structure RSt (w : World) (code : Value) (len c n B : Nat) (a : Option Addr) (cp : Nat) (xs : List Int) (W : World) : Prop where
  hl : xs.length = n
  ho : W.ownsRow w.heap.size 3 1 (.slice a n cp) n (xs.map (Value.int .i64))
  hc : Cu W code len c B
  hg : Chg w W c (c + 1)
  hcl : c < w.heap.size
theorem RSt.new {w W : World} {code : Value} {len c B : Nat} (h : Cu W code len c B) (g : Chg w W c (c + 1)) (hc : c < w.heap.size) : RSt w code len c 0 B none 0 [] W :=
  ⟨rfl, ⟨rfl, .inl ⟨rfl, rfl⟩⟩, h, g, hc⟩
theorem RSt.draw {w W W' : World} {code : Value} {len c n B B' : Nat} {a : Option Addr} {cp : Nat} {xs : List Int} (h : RSt w code len c n B a cp xs W) (g : Chg W W' c (c + 1)) (C : Cu W' code len c B') : RSt w code len c n B' a cp xs W' :=
  ⟨h.hl, row_far h.ho (fun b hb hb2 => g.block b hb2 (Or.inr (by have := h.hcl; omega))), C, h.hg.trans g, h.hcl⟩
theorem RSt.mono {w W : World} {code : Value} {len c n B B' : Nat} {a : Option Addr} {cp : Nat} {xs : List Int} (h : RSt w code len c n B a cp xs W) (hB : B ≤ B') : RSt w code len c n B' a cp xs W := { h with hc := h.hc.mono hB }
theorem RSt.push {w W w6 : World} {code : Value} {len c n B : Nat} {a a5 : Option Addr} {cp c5 : Nat} {xs : List Int} (y : Int) (h : RSt w code len c n B a cp xs W) (o5 : w6.ownsRow w.heap.size 3 1 (.slice a5 (n + 1) c5) (n + 1) (xs.map (Value.int .i64) ++ [Value.int .i64 y])) (g5 : (W.alloc (.cells #[.int .i64 y] 3)).grownBy w6 (Value.slice a n cp).ownBlock) : RSt w code len c (n + 1) B a5 c5 (xs ++ [y]) w6 := by
  have hob : ∀ j, (Value.slice a n cp).ownBlock = some j → w.heap.size ≤ j := fun j e => by
    rcases h.ho.2 with ⟨h1, _⟩ | ⟨g', cap, cur, e1, hb, _⟩
    · rw [h1] at e
      cases e
    · rw [e1] at e
      have : g' = j := Option.some.inj e
      omega
  have := h.hcl
  refine ⟨by rw [List.length_append, h.hl]; rfl, by rw [List.map_append]; exact o5, (h.hc.old ((Old.refl W).alloc _)).grown g5 (fun j e => by have := hob j e; omega), chg_grown (chg_alloc h.hg _) g5 hob, h.hcl⟩
theorem RSt.set {w W : World} {code : Value} {len c n B g : Nat} {cp : Nat} {xs : List Int} (h : RSt w code len c n B (some ⟨g, 0, none⟩) cp xs W) (i : Nat) (y : Int) : RSt w code len c n B (some ⟨g, 0, none⟩) cp (xs.set i y) (W.setCell ⟨g, i, none⟩ (.int .i64 y)) := by
  have hgk : w.heap.size ≤ g := by
    rcases h.ho.2 with ⟨h1, _⟩ | ⟨g', cap, cur, e, hb, _⟩
    · cases h1
    · injection e with e1
      injection e1 with e2
      injection e2 with e3
      omega
  have st := (World.ownsRow.stored h.ho i (.int .i64 y)).1
  have := h.hcl
  refine ⟨by rw [List.length_set]; exact h.hl, ?_, cu_own h.hc (by show c < g; omega) _, chg_own h.hg (by show w.heap.size ≤ g; omega) _, h.hcl⟩
  rw [List.map_set]
  simpa using st
theorem RSt.cell {w W : World} {code : Value} {len c n B g : Nat} {cp : Nat} {xs : List Int} (h : RSt w code len c n B (some ⟨g, 0, none⟩) cp xs W) (i : Nat) (hi : i < n) : W.cell? ⟨g, i, none⟩ = some (.int .i64 (xs.getD i 0)) ∧ W.frozen? ⟨g, i, none⟩ = false := by
  have hx : i < xs.length := by rw [h.hl]; exact hi
  have h1 := World.ownsRow.cellAt h.ho i (by omega)
  have h2 := World.ownsRow.frozenAt h.ho i
  refine ⟨?_, by simpa using h2⟩
  have h3 : W.cell? ⟨g, i, none⟩ = (xs.map (Value.int .i64))[i]? := by simpa using h1
  rw [h3]
  simp [List.getD, hx]
theorem RSt.addr {w W : World} {code : Value} {len c n B : Nat} {a : Option Addr} {cp : Nat} {xs : List Int} (h : RSt w code len c n B a cp xs W) (hn : 0 < n) : ∃ g, a = some ⟨g, 0, none⟩ := by
  rcases h.ho.2 with ⟨h1, h2⟩ | ⟨g, cap, cur, e, _⟩
  · omega
  · injection e with e1
    exact ⟨g, e1⟩
def CuR (M : Nat) (Z : Int → Prop) (w : World) (code : Value) (len c B : Nat) (e : Ending) (w' : World) : Prop :=
  ∃ a cp xs, e = .returned (.slice a xs.length cp) ∧ xs.length ≤ M ∧ (∀ x ∈ xs, Z x) ∧ Chg w w' c (c + 1) ∧ Cu w' code len c B ∧ Own w' w.heap.size (.slice a xs.length cp) xs
theorem RSt.ends {w W : World} {code : Value} {len c n B B' M : Nat} {Z : Int → Prop} {a : Option Addr} {cp : Nat} {xs : List Int} (h : RSt w code len c n B a cp xs W) (hn : n ≤ M) (hZ : ∀ x ∈ xs, Z x) (hB : B ≤ B') : CuR M Z w code len c B' (.returned (.slice a n cp)) W :=
  ⟨a, cp, xs, by rw [h.hl], by rw [h.hl]; exact hn, hZ, h.hg, h.hc.mono hB, by unfold Own; rw [h.hl]; exact h.ho⟩
theorem RSt.owns {w W : World} {code : Value} {len c n B : Nat} {a : Option Addr} {cp : Nat} {xs : List Int} (h : RSt w code len c n B a cp xs W) (o : Obj) : (W.alloc o).ownsRow w.heap.size 3 1 (.slice a n cp) n (xs.map (Value.int .i64)) := row_far h.ho (fun b _ hb => heap_alloc_old W o hb)
set_option maxRecDepth 100000 in
set_option maxHeartbeats 8000000 in
theorem residues_c {w : World} {code : Value} {len c B lo hi0 : Nat} (h : Cu w code len c B) (hB : B ≤ 34359738368) (hl : len ≤ 9223372036854775807) (v : Value) (ls : List Int) (hv : RwB lo hi0 w v ls) (hlo : c < lo) (hls : ls.length ≤ 20) (hb : ∀ x ∈ ls, -1000 ≤ x ∧ x ≤ 268435456) :
    Calls Tryz.prog 22 #[.pointer (some ⟨c, 0, none⟩), v] w fun e w' => CuR (ls.length + 1) (fun x => -1 ≤ x ∧ x ≤ 268435456) w code len c (B + 1000) e w' := by
  obtain ⟨i0, hi, hz0, hz1, hz2⟩ := info_parts Tryz.infoInt
  have hcw := h.lt
  have S0 : Hid (RSt w code len c 0 B none 0 [] w) := RSt.new h ((Old.refl w).toChg _ _) hcw
  obtain ⟨va, vc, ev⟩ := hv.1.slice
  subst ev
  have HV := hid hv
  have HB := hid hb
  obtain ⟨L, hL⟩ : ∃ L, ls.length = L := ⟨_, rfl⟩
  have HLL : Hid (ls.length = L) := hL
  rw [hL] at HV hls
  rw [hL]
  clear h hv hb hL
  go_enter Tryz.func22, Tryz.ntmps22
  go_wp2_with fail
  go_loopw [5, 11] (fun rv iv W' => ∃ (j : Nat) (a : Option Addr) (cp : Nat) (xs : List Int), j ≤ L ∧ iv = .int .i64 (j : Int) ∧ rv = .slice a j cp ∧ Hid (∀ x ∈ xs, -1 ≤ x ∧ x ≤ 268435456) ∧ Hid (RSt w code len c j (B + 20 * j) a cp xs W')) (fun _ iv _ => L - (intOf iv).toNat)
  case atStart => exact ⟨0, none, 0, [], by omega, rfl, rfl, (fun x hx => by cases hx), S0⟩
  case round =>
    obtain ⟨j, a, cp, xs, hj, rfl, rfl, HX, S1⟩ := hrel
    clear S0
    by_cases hlt : j < L
    · have d1 : decide ((j : Int) < (L : Int)) = true := decide_eq_true (by omega)
      have HV1 := hid (HV.out.chg S1.out.hg (Or.inl (by omega)))
      obtain ⟨b, o, eva, hvb, hvc⟩ : ∃ b o, va = some ⟨b, o, none⟩ ∧ b < wr.heap.size ∧ ∀ i, i < ls.length → wr.cell? ⟨b, o + i, none⟩ = some (.int .i64 (ls.getD i 0)) := by
        rcases HV1.out.1 with ⟨a', c', e1, e2⟩ | ⟨b, o, cap, e, hb, h0, hc⟩
        · rw [e2] at HLL
          have := HLL.out
          simp at this
          omega
        · injection e with e1
          exact ⟨b, o, e1, hb, hc⟩
      subst eva
      have cv := hvc j (by rw [HLL.out]; exact hlt)
      have hpb := HB.out (ls.getD j 0) (by have := HLL.out; simp [List.getD, show j < ls.length by omega])
      obtain ⟨p, hp⟩ : ∃ p, ls.getD j 0 = p := ⟨_, rfl⟩
      rw [hp] at cv hpb
      clear hp hvc HV1
      by_cases hp1 : p < 1
      · have d2 : decide (p < 1) = true := decide_eq_true hp1
        go_wp2_with (first | (at_builtin; go_loud (refine wpList_append_own _ rfl _ _ 23 rfl w.heap.size 3 i0 (.int .i64 0) 1 8 Tryz.underlying23 hi hz0 hz1 hz2 rfl (by decide) _ _ _ rfl (S1.out.owns (.cells #[.int .i64 0] 3)) ⟨wr.heap.size, 0, none⟩ 1 1 [.int .i64 0] rfl rfl (lit1CW _ _ _) (lit1OW _) (by unfold maxLen; omega) (by omega) (by have := S1.out.hg.size; simp; omega) ?_; intro v5 w6 o5 g5 x5; obtain ⟨a5, c5, rfl⟩ := sliceOfRowW o5; have S7 := hid (S1.out.push 0 o5 g5); clear o5 g5 x5)))
        exact ⟨⟨j + 1, a5, c5, xs ++ [0], by omega, by go_num, rfl, (fun x hx => by rcases List.mem_append.1 hx with h1 | h1; exact HX.out x h1; simp at h1; subst h1; omega), hid (S7.out.mono (by omega))⟩, by simp [intOf]; omega⟩
      · have d2 : decide (p < 1) = false := decide_eq_false hp1
        have c4 := wide_c S1.out.hc (by omega) hl
        go_wp2_with fail
        refine c4.mono ?_
        rintro e w4 ⟨⟨x4, hx4, rfl⟩, gq, Cq⟩
        have S2 := hid (S1.out.draw gq Cq)
        clear gq Cq c4 S1 cv
        obtain ⟨X, hX, rX⟩ := u64_ofW x4
        have wp : IntKind.u64.wrap p = p := by rw [IntKind.wrap_u64]; omega
        have dz : (p == 0) = false := by rw [beq_eq_false_iff_ne]; omega
        have dz2 : ¬ (p = 0) := by omega
        have m0 := Int.emod_nonneg X (show p ≠ 0 by omega)
        have m1 := Int.emod_lt_of_pos X (show 0 < p by omega)
        obtain ⟨y0, hy0⟩ : ∃ y0, X % p = y0 := ⟨_, rfl⟩
        have hy1 : X.tmod p = y0 := by rw [Int.tmod_eq_emod_of_nonneg hX.1]; exact hy0
        rw [hy0] at m0 m1
        have wy : IntKind.i64.wrap y0 = y0 := by rw [IntKind.wrap_i64]; omega
        have c5 := one_c S2.out.hc (by omega) hl 4 (by omega) (by omega)
        go_wp2_with fail
        refine c5.mono ?_
        rintro e w5 ⟨⟨o, rfl⟩, gq, Cq⟩
        have S3 := hid (S2.out.draw gq Cq)
        clear gq Cq c5 S2 hX rX wp dz dz2 hx4 hy0 hy1 wy
        cases o
        · go_wp2_with (first | (at_builtin; go_loud (refine wpList_append_own _ rfl _ _ 23 rfl w.heap.size 3 i0 (.int .i64 0) 1 8 Tryz.underlying23 hi hz0 hz1 hz2 rfl (by decide) _ _ _ rfl (S3.out.owns (.cells #[.int .i64 y0] 3)) ⟨w5.heap.size, 0, none⟩ 1 1 [.int .i64 y0] rfl rfl (lit1CW _ _ _) (lit1OW _) (by unfold maxLen; omega) (by omega) (by have := S3.out.hg.size; simp; omega) ?_; intro v5 w6 o5 g5 x5; obtain ⟨a5, c5, rfl⟩ := sliceOfRowW o5; have S7 := hid (S3.out.push y0 o5 g5); clear o5 g5 x5)))
          exact ⟨⟨j + 1, a5, c5, xs ++ [y0], by omega, by go_num, rfl, (fun x hx => by rcases List.mem_append.1 hx with h1 | h1; exact HX.out x h1; simp at h1; subst h1; omega), hid (S7.out.mono (by omega))⟩, by simp [intOf]; omega⟩
        · have c6 := among_lit3 S3.out.hc (by omega) hl [0, 1, p - 1] (by simp) (by simp) 3
          go_wp2_with fail
          refine c6.mono ?_
          rintro e w7 ⟨⟨y, hy, rfl⟩, gq, Cq⟩
          have S4 := hid (S3.out.draw gq Cq)
          clear gq Cq c6 S3
          have hyb : -1 ≤ y ∧ y ≤ 268435456 := by simp at hy; omega
          clear hy
          go_wp2_with (first | (at_builtin; go_loud (refine wpList_append_own _ rfl _ _ 23 rfl w.heap.size 3 i0 (.int .i64 0) 1 8 Tryz.underlying23 hi hz0 hz1 hz2 rfl (by decide) _ _ _ rfl (S4.out.owns (.cells #[.int .i64 y] 3)) ⟨w7.heap.size, 0, none⟩ 1 1 [.int .i64 y] rfl rfl (lit1CW _ _ _) (lit1OW _) (by unfold maxLen; omega) (by omega) (by have := S4.out.hg.size; simp; omega) ?_; intro v5 w6 o5 g5 x5; obtain ⟨a5, c5, rfl⟩ := sliceOfRowW o5; have S7 := hid (S4.out.push y o5 g5); clear o5 g5 x5)))
          exact ⟨⟨j + 1, a5, c5, xs ++ [y], by omega, by go_num, rfl, (fun x hx => by rcases List.mem_append.1 hx with h1 | h1; exact HX.out x h1; simp at h1; subst h1; exact hyb), hid (S7.out.mono (by omega))⟩, by simp [intOf]; omega⟩
    · have d1 : decide ((j : Int) < (L : Int)) = false := decide_eq_false (by omega)
      obtain rfl : j = L := by omega
      clear hlt HV HLL HB
      have c8 := one_c S1.out.hc (by omega) hl 40 (by omega) (by omega)
      go_wp2_with fail
      refine c8.mono ?_
      rintro e w8 ⟨⟨o, rfl⟩, gq, Cq⟩
      have S2 := hid (S1.out.draw gq Cq)
      clear gq Cq c8 S1 d1
      cases o
      · have c9 := one_c S2.out.hc (by omega) hl 60 (by omega) (by omega)
        go_wp2_with fail
        refine c9.mono ?_
        rintro e w9 ⟨⟨o, rfl⟩, gq, Cq⟩
        have S9 := hid (S2.out.draw gq Cq)
        clear gq Cq c9 S2
        cases o
        · go_wp2_with fail
          go_ret
          exact S9.out.ends (by omega) HX.out (by omega)
        · rcases Nat.eq_zero_or_pos (j) with hj0 | hj0
          · have d5 : decide ((0 : Int) < (((j : Nat)) : Int)) = false := decide_eq_false (by omega)
            have d6 : decide (0 < j) = false := decide_eq_false (by omega)
            clear hj0
            go_wp2_with fail
            go_ret
            exact S9.out.ends (by omega) HX.out (by omega)
          · have d5 : decide ((0 : Int) < (((j : Nat)) : Int)) = true := decide_eq_true (by omega)
            have d6 : decide (0 < j) = true := decide_eq_true hj0
            obtain ⟨g, rfl⟩ := S9.out.addr hj0
            have k2 := (S9.out.cell 0 hj0).1
            have k3 := (S9.out.cell 0 hj0).2
            have S10 := hid (S9.out.set 0 (-1))
            have hz : (0 : Int) < (((j : Nat)) : Int) := by omega
            have HY : Hid (∀ x ∈ (xs).set 0 (-1), -1 ≤ x ∧ x ≤ 268435456) := fun x hx => by
              rcases List.mem_or_eq_of_mem_set hx with h1 | h1
              · exact HX.out x h1
              · omega
            go_wp2_with fail
            go_ret
            exact S10.out.ends (by omega) HY.out (by omega)
      · go_wp2_with (first | (at_builtin; go_loud (refine wpList_append_own _ rfl _ _ 23 rfl w.heap.size 3 i0 (.int .i64 0) 1 8 Tryz.underlying23 hi hz0 hz1 hz2 rfl (by decide) _ _ _ rfl (S2.out.owns (.cells #[.int .i64 0] 3)) ⟨w8.heap.size, 0, none⟩ 1 1 [.int .i64 0] rfl rfl (lit1CW _ _ _) (lit1OW _) (by unfold maxLen; omega) (by omega) (by have := S2.out.hg.size; simp; omega) ?_; intro v5 w6 o5 g5 x5; obtain ⟨a5, c5, rfl⟩ := sliceOfRowW o5; have S7 := hid (S2.out.push 0 o5 g5); clear o5 g5 x5)))
        have HX7 : Hid (∀ x ∈ xs ++ [0], -1 ≤ x ∧ x ≤ 268435456) := fun x hx => by
          rcases List.mem_append.1 hx with h1 | h1
          · exact HX.out x h1
          · simp at h1
            subst h1
            omega
        have c9 := one_c S7.out.hc (by omega) hl 60 (by omega) (by omega)
        go_wp2_with fail
        refine c9.mono ?_
        rintro e w9 ⟨⟨o, rfl⟩, gq, Cq⟩
        have S9 := hid (S7.out.draw gq Cq)
        clear gq Cq c9 S7
        cases o
        · go_wp2_with fail
          go_ret
          exact S9.out.ends (by omega) HX7.out (by omega)
        · rcases Nat.eq_zero_or_pos (j + 1) with hj0 | hj0
          · omega
          · have d5 : decide ((0 : Int) < (((j + 1 : Nat)) : Int)) = true := decide_eq_true (by omega)
            have d6 : decide (0 < j + 1) = true := decide_eq_true hj0
            obtain ⟨g, rfl⟩ := S9.out.addr hj0
            have k2 := (S9.out.cell 0 hj0).1
            have k3 := (S9.out.cell 0 hj0).2
            have S10 := hid (S9.out.set 0 (-1))
            have hz : (0 : Int) < (((j + 1 : Nat)) : Int) := by omega
            have HY : Hid (∀ x ∈ (xs ++ [0]).set 0 (-1), -1 ≤ x ∧ x ≤ 268435456) := fun x hx => by
              rcases List.mem_or_eq_of_mem_set hx with h1 | h1
              · exact HX7.out x h1
              · omega
            go_wp2_with fail
            go_ret
            exact S10.out.ends (by omega) HY.out (by omega)
end Go.Proofs.YtfcdfielbpdloaaGreatDoor
/- Proved: the contract of the draw of two bases: two lists of one to three numbers are told, nothing panics, and nothing that was there changes but the cursor. -/
namespace Go.Proofs.YtfcdfielbpdloaaGreatDoor
open Go.ChangeShapes Go.WideShapes Go.ChangeAt Go.RowKit
set_option linter.unusedVariables false
set_option linter.unusedSimpArgs false
def AlF (W : World) (g L : Nat) (al : List Int) : Prop := g < W.heap.size ∧ ∀ i, i < L → W.cell? ⟨g, i, none⟩ = some (.int .i64 (al.getD i 0))
theorem AlF.chg {W W' : World} {g L c : Nat} {al : List Int} (h : AlF W g L al) (q : Chg W W' c (c + 1)) (hc : c < g) : AlF W' g L al :=
  ⟨Nat.lt_of_lt_of_le h.1 q.size, fun i hi => by
    rw [← h.2 i hi]
    unfold World.cell?
    simp only [q.block g h.1 (Or.inr (by omega))]⟩
theorem RSt.own {w W : World} {code : Value} {len c n B : Nat} {a : Option Addr} {cp : Nat} {xs : List Int} (h : RSt w code len c n B a cp xs W) : Own W w.heap.size (.slice a n cp) xs := by
  unfold Own
  rw [h.hl]
  exact h.ho
theorem own_cap {W : World} {base n cp : Nat} {a : Option Addr} {xs : List Int} (h : Own W base (.slice a n cp) xs) : n ≤ cp := by
  rcases h.2 with ⟨h1, h2⟩ | ⟨g, cap, cur, e, hb, hgg, rest⟩
  · injection h1 with e1 e2 e3
    omega
  · injection e with e1 e2 e3
    subst e3
    omega
set_option maxRecDepth 100000 in
set_option maxHeartbeats 8000000 in
theorem primes_c (w : World) : Calls Tryz.prog 50 #[] w fun e w' => e = .returned (.slice (some ⟨w.heap.size, 0, none⟩) 10 10) ∧ w' = w.alloc (.cells #[.int .i64 268435361, .int .i64 268435009, .int .i64 268434977, .int .i64 268434721, .int .i64 268434401, .int .i64 268433761, .int .i64 268433569, .int .i64 268433441, .int .i64 268433377, .int .i64 268433057] 3) := by
  go_enter Tryz.func50, Tryz.ntmps50
  go_wp2_with fail
  go_ret
  exact ⟨rfl, rfl⟩
end Go.Proofs.YtfcdfielbpdloaaGreatDoor
/- Proved: contracts of the draw of a basis and of the draws for what is composed: at most eight numbers, and nothing that was there changes but the cursor. -/
namespace Go.Proofs.YtfcdfielbpdloaaGreatDoor
open Go.ChangeShapes Go.WideShapes Go.ChangeAt Go.RowKit
set_option linter.unusedVariables false
set_option linter.unusedSimpArgs false
theorem alf_lit (W : World) (al : List Int) (L : Nat) (h : al.length = L) (t : TypeId) : AlF (W.alloc (.cells (al.map (Value.int .i64)).toArray t)) W.heap.size L al :=
  ⟨by simp, fun i hi => by rw [cell_at _ _ _ _ _ rfl]; simp [List.getD, show i < al.length by omega]⟩
theorem ends_low {w w11 W : World} {code : Value} {len c n B B' M : Nat} {a : Option Addr} {cp : Nat} {xs : List Int} (hG : Chg w w11 c (c + 1)) (S : RSt w11 code len c n B a cp xs W) (hn : n ≤ M) (hX : ∀ x ∈ xs, -1000 ≤ x ∧ x ≤ 268435456) (hB : B ≤ B') : CuR M (fun x => -1000 ≤ x ∧ x ≤ 268435456) w code len c B' (.returned (.slice a n cp)) W :=
  ⟨a, cp, xs, by rw [S.hl], by rw [S.hl]; exact hn, hX, hG.trans S.hg, S.hc.mono hB, by have o := S.own; rw [← S.hl] at o; exact Own.low o hG.size⟩
set_option maxRecDepth 100000 in
set_option maxHeartbeats 8000000 in
theorem basis_c {w : World} {code : Value} {len c B : Nat} (h : Cu w code len c B) (hB : B ≤ 34359738368) (hl : len ≤ 9223372036854775807) :
    Calls Tryz.prog 21 #[.pointer (some ⟨c, 0, none⟩)] w fun e w' => CuR 8 (fun x => -1000 ≤ x ∧ x ≤ 268435456) w code len c (B + 1000) e w' := by
  obtain ⟨i0, hi, hz0, hz1, hz2⟩ := info_parts Tryz.infoInt
  have hcw := h.lt
  have C0 := h.old ((Old.refl w).alloc (.cells #[.int .i64 268435361, .int .i64 268435009, .int .i64 268434977, .int .i64 268434721, .int .i64 268434401, .int .i64 268433761, .int .i64 268433569, .int .i64 268433441, .int .i64 268433377, .int .i64 268433057] 3))
  have G0 : Hid (Chg w (w.alloc (.cells #[.int .i64 268435361, .int .i64 268435009, .int .i64 268434977, .int .i64 268434721, .int .i64 268434401, .int .i64 268433761, .int .i64 268433569, .int .i64 268433441, .int .i64 268433377, .int .i64 268433057] 3)) c (c + 1)) := ((Old.refl w).alloc _).toChg _ _
  have A0 : Hid (AlF (w.alloc (.cells #[.int .i64 268435361, .int .i64 268435009, .int .i64 268434977, .int .i64 268434721, .int .i64 268434401, .int .i64 268433761, .int .i64 268433569, .int .i64 268433441, .int .i64 268433377, .int .i64 268433057] 3)) w.heap.size 10 [268435361, 268435009, 268434977, 268434721, 268434401, 268433761, 268433569, 268433441, 268433377, 268433057]) := alf_lit w [268435361, 268435009, 268434977, 268434721, 268434401, 268433761, 268433569, 268433441, 268433377, 268433057] 10 rfl 3
  have c1 := one_c C0 (by omega) hl 2 (by omega) (by omega)
  clear h C0
  go_enter Tryz.func21, Tryz.ntmps21
  go_wp2_with fail
  refine (primes_c _).mono ?_
  rintro e w2 ⟨rfl, rfl⟩
  go_wp2_with fail
  refine c1.mono ?_
  rintro e w3 ⟨⟨o, rfl⟩, gq, Cq⟩
  have G3 := hid (G0.out.trans gq)
  have A3 := hid (A0.out.chg gq hcw)
  have HC3 := hid Cq
  clear gq Cq c1 G0 A0
  cases o
  · obtain ⟨al, hal⟩ : ∃ al : List Int, [268435361, 268435009, 268434977, 268434721, 268434401, 268433761, 268433569, 268433441, 268433377, 268433057] = al := ⟨_, rfl⟩
    have HAB : Hid (∀ i, i < 10 → -1000 ≤ al.getD i 0 ∧ al.getD i 0 ≤ 268435456) := by rw [← hal]; show ∀ i, i < 10 → _; decide
    rw [hal] at A3
    clear hal
    obtain ⟨gA, egA⟩ : ∃ gA, w.heap.size = gA := ⟨_, rfl⟩
    have hgA : c < gA := by rw [← egA]; exact hcw
    rw [egA] at A3
    have c2 := pick_c HC3.out (by omega) hl 4 (by omega) (by omega)
    go_wp2_with fail
    refine c2.mono ?_
    rintro e w4 ⟨⟨r, hr, rfl⟩, gq, Cq⟩
    have A4 := hid (A3.out.chg gq hgA)
    have G4 := hid (G3.out.trans gq)
    have c3 := one_c Cq (by omega) hl 20 (by omega) (by omega)
    clear gq Cq c2 A3 G3 HC3
    go_wp2_with fail
    refine c3.mono ?_
    rintro e w5 ⟨⟨o, rfl⟩, gq, Cq⟩
    have A5 := hid (A4.out.chg gq hgA)
    have G5 := hid (G4.out.trans gq)
    have HC5 := hid Cq
    clear gq Cq c3 A4 G4
    cases o
    · obtain ⟨n1, hn1, er⟩ : ∃ n1 : Nat, (1 ≤ n1 ∧ n1 ≤ 7) ∧ 1 + r = n1 := ⟨(1 + r).toNat, by omega, by omega⟩
      have c5 := pick_c HC5.out (by omega) hl 10 (by omega) (by omega)
      go_wp2_with fail
      refine c5.mono ?_
      rintro e w11 ⟨⟨s, hs, rfl⟩, gq, Cq⟩
      have AL2 := hid (A5.out.chg gq hgA)
      have HG2 := hid (G5.out.trans gq)
      have SA0 : Hid (RSt w11 code len c 0 (B + 2 + 2 + 2 + 2) none 0 [] w11) := RSt.new Cq ((Old.refl w11).toChg _ _) (by have := HG2.out.size; omega)
      clear gq Cq c5 A5 G5
      go_wp2_with fail
      try rw [er]
      go_loopw [4, 7] (fun av kv W' => ∃ (j : Nat) (a : Option Addr) (cp : Nat) (xs : List Int), j ≤ n1 ∧ kv = .int .i64 (j : Int) ∧ av = .slice a j cp ∧ Hid (∀ x ∈ xs, -1000 ≤ x ∧ x ≤ 268435456) ∧ Hid (RSt w11 code len c j (B + 2 + 2 + 2 + 2) a cp xs W')) (fun _ kv _ => n1 - (intOf kv).toNat)
      case atStart => exact ⟨0, none, 0, [], by omega, rfl, rfl, (fun x hx => by cases hx), SA0⟩
      case round =>
        obtain ⟨j, a, cp, xs, hj, rfl, rfl, HX, S1⟩ := hrel
        clear SA0
        by_cases hlt : j < n1
        · have d1 : decide ((j : Int) < (n1 : Int)) = true := decide_eq_true (by omega)
          have em : (s + (j : Int)).tmod 10 = (s + (j : Int)) % 10 := Int.tmod_eq_emod_of_nonneg (by omega)
          obtain ⟨i, hi1, ei⟩ : ∃ i : Nat, i < 10 ∧ (s + (j : Int)) % 10 = (i : Int) := ⟨((s + (j : Int)) % 10).toNat, by omega, by omega⟩
          rw [ei] at em
          have cv := (AL2.out.chg S1.out.hg hgA).2 i hi1
          have hyb := HAB.out i hi1
          obtain ⟨y, hy⟩ : ∃ y, al.getD i 0 = y := ⟨_, rfl⟩
          rw [hy] at cv hyb
          clear hy
          have hi2 : (i : Int) < 10 := by omega
          go_wp2_with (first | (at_builtin; go_loud (refine wpList_append_own _ rfl _ _ 23 rfl w11.heap.size 3 i0 (.int .i64 0) 1 8 Tryz.underlying23 hi hz0 hz1 hz2 rfl (by decide) _ _ _ rfl (S1.out.owns (.cells #[.int .i64 y] 3)) ⟨wr.heap.size, 0, none⟩ 1 1 [.int .i64 y] rfl rfl (lit1CW _ _ _) (lit1OW _) (by unfold maxLen; omega) (by omega) (by have := S1.out.hg.size; simp; omega) ?_; intro v5 x6 o5 g5 x5; obtain ⟨a5, c5, rfl⟩ := sliceOfRowW o5; have S7 := hid (S1.out.push y o5 g5); clear o5 g5 x5)))
          exact ⟨⟨j + 1, a5, c5, xs ++ [y], by omega, by go_num, rfl, (fun x hx => by rcases List.mem_append.1 hx with h1 | h1; exact HX.out x h1; simp at h1; subst h1; exact hyb), S7⟩, by simp [intOf]; omega⟩
        · have d1 : decide ((j : Int) < (n1 : Int)) = false := decide_eq_false (by omega)
          obtain rfl : j = n1 := by omega
          clear hlt AL2 HAB
          have c6 := pick_c S1.out.hc (by omega) hl 40 (by omega) (by omega)
          go_wp2_with fail
          refine c6.mono ?_
          rintro e w15 ⟨⟨u, hu, rfl⟩, gq, Cq⟩
          have S2 := hid (S1.out.draw gq Cq)
          clear gq Cq c6 S1 d1
          obtain ⟨ga, rfl⟩ := S2.out.addr (by omega)
          have hj0 : (0 : Int) < (j : Int) := by omega
          by_cases u0 : u = 0
          · subst u0
            have k2 := (S2.out.cell 0 (by omega)).1
            have hxl := S2.out.hl
            have hyb := HX.out (xs.getD 0 0) (by simp [List.getD, show 0 < xs.length by omega])
            obtain ⟨y, hy⟩ : ∃ y, xs.getD 0 0 = y := ⟨_, rfl⟩
            rw [hy] at k2 hyb
            clear hy
            go_wp2_with (first | (at_builtin; go_loud (refine wpList_append_own _ rfl _ _ 23 rfl w11.heap.size 3 i0 (.int .i64 0) 1 8 Tryz.underlying23 hi hz0 hz1 hz2 rfl (by decide) _ _ _ rfl (S2.out.owns (.cells #[.int .i64 y] 3)) ⟨w15.heap.size, 0, none⟩ 1 1 [.int .i64 y] rfl rfl (lit1CW _ _ _) (lit1OW _) (by unfold maxLen; omega) (by omega) (by have := S2.out.hg.size; simp; omega) ?_; intro v5 x6 o5 g5 x5; obtain ⟨a5, c5, rfl⟩ := sliceOfRowW o5; have S7 := hid (S2.out.push y o5 g5); clear o5 g5 x5)))
            go_ret
            exact ends_low HG2.out S7.out (by omega) (fun x hx => by rcases List.mem_append.1 hx with h1 | h1; exact HX.out x h1; simp at h1; subst h1; exact hyb) (by omega)
          have du : (u == 0) = false := by rw [beq_eq_false_iff_ne]; exact u0
          by_cases u1 : u = 1
          · subst u1
            have c7 := among_lit3 S2.out.hc (by omega) hl [1, 4, -3, 91] (by simp) (by simp) 3
            go_wp2_with fail
            refine c7.mono ?_
            rintro e w17 ⟨⟨y, hy, rfl⟩, gq, Cq⟩
            have S3 := hid (S2.out.draw gq Cq)
            clear gq Cq c7 S2
            have hyb : -1000 ≤ y ∧ y ≤ 268435456 := by simp at hy; omega
            clear hy
            have k2 := (S3.out.cell 0 (by omega)).1
            have k3 := (S3.out.cell 0 (by omega)).2
            have S4 := hid (S3.out.set 0 y)
            have HY : Hid (∀ x ∈ xs.set 0 y, -1000 ≤ x ∧ x ≤ 268435456) := fun x hx => by
              rcases List.mem_or_eq_of_mem_set hx with h | h
              · exact HX.out x h
              · omega
            go_wp2_with fail
            go_ret
            exact ends_low HG2.out S4.out (by omega) HY.out (by omega)
          have du1 : (u == 1) = false := by rw [beq_eq_false_iff_ne]; exact u1
          by_cases u2 : u = 2
          · subst u2
            have SN : Hid (RSt w11 code len c 0 (B + 2 + 2 + 2 + 2 + 2) none 0 [] w15) := RSt.new S2.out.hc S2.out.hg S2.out.hcl
            go_wp2_with fail
            go_ret
            exact ends_low HG2.out SN.out (by omega) (fun x hx => by cases hx) (by omega)
          have du2 : (u == 2) = false := by rw [beq_eq_false_iff_ne]; exact u2
          go_wp2_with fail
          go_ret
          exact ends_low HG2.out S2.out (by omega) HX.out (by omega)
    · have c4 := pick_c HC5.out (by omega) hl 2 (by omega) (by omega)
      go_wp2_with fail
      refine c4.mono ?_
      rintro e w6 ⟨⟨r6, hr6, rfl⟩, gq, Cq⟩
      have A6 := hid (A5.out.chg gq hgA)
      have G6 := hid (G5.out.trans gq)
      have HC6 := hid Cq
      clear gq Cq c4 A5 G5 HC5
      obtain ⟨n1, hn1, er⟩ : ∃ n1 : Nat, (1 ≤ n1 ∧ n1 ≤ 7) ∧ 6 + r6 = n1 := ⟨(6 + r6).toNat, by omega, by omega⟩
      have c5 := pick_c HC6.out (by omega) hl 10 (by omega) (by omega)
      go_wp2_with fail
      refine c5.mono ?_
      rintro e w11 ⟨⟨s, hs, rfl⟩, gq, Cq⟩
      have AL2 := hid (A6.out.chg gq hgA)
      have HG2 := hid (G6.out.trans gq)
      have SA0 : Hid (RSt w11 code len c 0 (B + 2 + 2 + 2 + 2 + 2) none 0 [] w11) := RSt.new Cq ((Old.refl w11).toChg _ _) (by have := HG2.out.size; omega)
      clear gq Cq c5 A6 G6
      go_wp2_with fail
      try rw [er]
      go_loopw [4, 7] (fun av kv W' => ∃ (j : Nat) (a : Option Addr) (cp : Nat) (xs : List Int), j ≤ n1 ∧ kv = .int .i64 (j : Int) ∧ av = .slice a j cp ∧ Hid (∀ x ∈ xs, -1000 ≤ x ∧ x ≤ 268435456) ∧ Hid (RSt w11 code len c j (B + 2 + 2 + 2 + 2 + 2) a cp xs W')) (fun _ kv _ => n1 - (intOf kv).toNat)
      case atStart => exact ⟨0, none, 0, [], by omega, rfl, rfl, (fun x hx => by cases hx), SA0⟩
      case round =>
        obtain ⟨j, a, cp, xs, hj, rfl, rfl, HX, S1⟩ := hrel
        clear SA0
        by_cases hlt : j < n1
        · have d1 : decide ((j : Int) < (n1 : Int)) = true := decide_eq_true (by omega)
          have em : (s + (j : Int)).tmod 10 = (s + (j : Int)) % 10 := Int.tmod_eq_emod_of_nonneg (by omega)
          obtain ⟨i, hi1, ei⟩ : ∃ i : Nat, i < 10 ∧ (s + (j : Int)) % 10 = (i : Int) := ⟨((s + (j : Int)) % 10).toNat, by omega, by omega⟩
          rw [ei] at em
          have cv := (AL2.out.chg S1.out.hg hgA).2 i hi1
          have hyb := HAB.out i hi1
          obtain ⟨y, hy⟩ : ∃ y, al.getD i 0 = y := ⟨_, rfl⟩
          rw [hy] at cv hyb
          clear hy
          have hi2 : (i : Int) < 10 := by omega
          go_wp2_with (first | (at_builtin; go_loud (refine wpList_append_own _ rfl _ _ 23 rfl w11.heap.size 3 i0 (.int .i64 0) 1 8 Tryz.underlying23 hi hz0 hz1 hz2 rfl (by decide) _ _ _ rfl (S1.out.owns (.cells #[.int .i64 y] 3)) ⟨wr.heap.size, 0, none⟩ 1 1 [.int .i64 y] rfl rfl (lit1CW _ _ _) (lit1OW _) (by unfold maxLen; omega) (by omega) (by have := S1.out.hg.size; simp; omega) ?_; intro v5 x6 o5 g5 x5; obtain ⟨a5, c5, rfl⟩ := sliceOfRowW o5; have S7 := hid (S1.out.push y o5 g5); clear o5 g5 x5)))
          exact ⟨⟨j + 1, a5, c5, xs ++ [y], by omega, by go_num, rfl, (fun x hx => by rcases List.mem_append.1 hx with h1 | h1; exact HX.out x h1; simp at h1; subst h1; exact hyb), S7⟩, by simp [intOf]; omega⟩
        · have d1 : decide ((j : Int) < (n1 : Int)) = false := decide_eq_false (by omega)
          obtain rfl : j = n1 := by omega
          clear hlt AL2 HAB
          have c6 := pick_c S1.out.hc (by omega) hl 40 (by omega) (by omega)
          go_wp2_with fail
          refine c6.mono ?_
          rintro e w15 ⟨⟨u, hu, rfl⟩, gq, Cq⟩
          have S2 := hid (S1.out.draw gq Cq)
          clear gq Cq c6 S1 d1
          obtain ⟨ga, rfl⟩ := S2.out.addr (by omega)
          have hj0 : (0 : Int) < (j : Int) := by omega
          by_cases u0 : u = 0
          · subst u0
            have k2 := (S2.out.cell 0 (by omega)).1
            have hxl := S2.out.hl
            have hyb := HX.out (xs.getD 0 0) (by simp [List.getD, show 0 < xs.length by omega])
            obtain ⟨y, hy⟩ : ∃ y, xs.getD 0 0 = y := ⟨_, rfl⟩
            rw [hy] at k2 hyb
            clear hy
            go_wp2_with (first | (at_builtin; go_loud (refine wpList_append_own _ rfl _ _ 23 rfl w11.heap.size 3 i0 (.int .i64 0) 1 8 Tryz.underlying23 hi hz0 hz1 hz2 rfl (by decide) _ _ _ rfl (S2.out.owns (.cells #[.int .i64 y] 3)) ⟨w15.heap.size, 0, none⟩ 1 1 [.int .i64 y] rfl rfl (lit1CW _ _ _) (lit1OW _) (by unfold maxLen; omega) (by omega) (by have := S2.out.hg.size; simp; omega) ?_; intro v5 x6 o5 g5 x5; obtain ⟨a5, c5, rfl⟩ := sliceOfRowW o5; have S7 := hid (S2.out.push y o5 g5); clear o5 g5 x5)))
            go_ret
            exact ends_low HG2.out S7.out (by omega) (fun x hx => by rcases List.mem_append.1 hx with h1 | h1; exact HX.out x h1; simp at h1; subst h1; exact hyb) (by omega)
          have du : (u == 0) = false := by rw [beq_eq_false_iff_ne]; exact u0
          by_cases u1 : u = 1
          · subst u1
            have c7 := among_lit3 S2.out.hc (by omega) hl [1, 4, -3, 91] (by simp) (by simp) 3
            go_wp2_with fail
            refine c7.mono ?_
            rintro e w17 ⟨⟨y, hy, rfl⟩, gq, Cq⟩
            have S3 := hid (S2.out.draw gq Cq)
            clear gq Cq c7 S2
            have hyb : -1000 ≤ y ∧ y ≤ 268435456 := by simp at hy; omega
            clear hy
            have k2 := (S3.out.cell 0 (by omega)).1
            have k3 := (S3.out.cell 0 (by omega)).2
            have S4 := hid (S3.out.set 0 y)
            have HY : Hid (∀ x ∈ xs.set 0 y, -1000 ≤ x ∧ x ≤ 268435456) := fun x hx => by
              rcases List.mem_or_eq_of_mem_set hx with h | h
              · exact HX.out x h
              · omega
            go_wp2_with fail
            go_ret
            exact ends_low HG2.out S4.out (by omega) HY.out (by omega)
          have du1 : (u == 1) = false := by rw [beq_eq_false_iff_ne]; exact u1
          by_cases u2 : u = 2
          · subst u2
            have SN : Hid (RSt w11 code len c 0 (B + 2 + 2 + 2 + 2 + 2 + 2) none 0 [] w15) := RSt.new S2.out.hc S2.out.hg S2.out.hcl
            go_wp2_with fail
            go_ret
            exact ends_low HG2.out SN.out (by omega) (fun x hx => by cases hx) (by omega)
          have du2 : (u == 2) = false := by rw [beq_eq_false_iff_ne]; exact u2
          go_wp2_with fail
          go_ret
          exact ends_low HG2.out S2.out (by omega) HX.out (by omega)
  · have A7 : Hid (AlF (w3.alloc (.cells #[.int .i64 2, .int .i64 3, .int .i64 5, .int .i64 7, .int .i64 97, .int .i64 193, .int .i64 257] 3)) w3.heap.size 7 [2, 3, 5, 7, 97, 193, 257]) := alf_lit w3 [2, 3, 5, 7, 97, 193, 257] 7 rfl 3
    have G7 := hid (chg_alloc G3.out (.cells #[.int .i64 2, .int .i64 3, .int .i64 5, .int .i64 7, .int .i64 97, .int .i64 193, .int .i64 257] 3))
    have HC7 := hid (HC3.out.old ((Old.refl w3).alloc (.cells #[.int .i64 2, .int .i64 3, .int .i64 5, .int .i64 7, .int .i64 97, .int .i64 193, .int .i64 257] 3)))
    clear A3 HC3
    obtain ⟨al, hal⟩ : ∃ al : List Int, [2, 3, 5, 7, 97, 193, 257] = al := ⟨_, rfl⟩
    have HAB : Hid (∀ i, i < 7 → -1000 ≤ al.getD i 0 ∧ al.getD i 0 ≤ 268435456) := by rw [← hal]; show ∀ i, i < 7 → _; decide
    rw [hal] at A7
    clear hal
    obtain ⟨gA, egA⟩ : ∃ gA, w3.heap.size = gA := ⟨_, rfl⟩
    have hgA : c < gA := by rw [← egA]; have := G3.out.size; omega
    rw [egA] at A7
    have c2 := pick_c HC7.out (by omega) hl 4 (by omega) (by omega)
    go_wp2_with fail
    refine c2.mono ?_
    rintro e w4 ⟨⟨r, hr, rfl⟩, gq, Cq⟩
    have A4 := hid (A7.out.chg gq hgA)
    have G4 := hid (G7.out.trans gq)
    have c3 := one_c Cq (by omega) hl 20 (by omega) (by omega)
    clear gq Cq c2 A7 G7 HC7
    go_wp2_with fail
    refine c3.mono ?_
    rintro e w5 ⟨⟨o, rfl⟩, gq, Cq⟩
    have A5 := hid (A4.out.chg gq hgA)
    have G5 := hid (G4.out.trans gq)
    have HC5 := hid Cq
    clear gq Cq c3 A4 G4
    cases o
    · obtain ⟨n1, hn1, er⟩ : ∃ n1 : Nat, (1 ≤ n1 ∧ n1 ≤ 7) ∧ 1 + r = n1 := ⟨(1 + r).toNat, by omega, by omega⟩
      have c5 := pick_c HC5.out (by omega) hl 7 (by omega) (by omega)
      go_wp2_with fail
      refine c5.mono ?_
      rintro e w11 ⟨⟨s, hs, rfl⟩, gq, Cq⟩
      have AL2 := hid (A5.out.chg gq hgA)
      have HG2 := hid (G5.out.trans gq)
      have SA0 : Hid (RSt w11 code len c 0 (B + 2 + 2 + 2 + 2) none 0 [] w11) := RSt.new Cq ((Old.refl w11).toChg _ _) (by have := HG2.out.size; omega)
      clear gq Cq c5 A5 G5
      go_wp2_with fail
      try rw [er]
      go_loopw [4, 7] (fun av kv W' => ∃ (j : Nat) (a : Option Addr) (cp : Nat) (xs : List Int), j ≤ n1 ∧ kv = .int .i64 (j : Int) ∧ av = .slice a j cp ∧ Hid (∀ x ∈ xs, -1000 ≤ x ∧ x ≤ 268435456) ∧ Hid (RSt w11 code len c j (B + 2 + 2 + 2 + 2) a cp xs W')) (fun _ kv _ => n1 - (intOf kv).toNat)
      case atStart => exact ⟨0, none, 0, [], by omega, rfl, rfl, (fun x hx => by cases hx), SA0⟩
      case round =>
        obtain ⟨j, a, cp, xs, hj, rfl, rfl, HX, S1⟩ := hrel
        clear SA0
        by_cases hlt : j < n1
        · have d1 : decide ((j : Int) < (n1 : Int)) = true := decide_eq_true (by omega)
          have em : (s + (j : Int)).tmod 7 = (s + (j : Int)) % 7 := Int.tmod_eq_emod_of_nonneg (by omega)
          obtain ⟨i, hi1, ei⟩ : ∃ i : Nat, i < 7 ∧ (s + (j : Int)) % 7 = (i : Int) := ⟨((s + (j : Int)) % 7).toNat, by omega, by omega⟩
          rw [ei] at em
          have cv := (AL2.out.chg S1.out.hg hgA).2 i hi1
          have hyb := HAB.out i hi1
          obtain ⟨y, hy⟩ : ∃ y, al.getD i 0 = y := ⟨_, rfl⟩
          rw [hy] at cv hyb
          clear hy
          have hi2 : (i : Int) < 7 := by omega
          go_wp2_with (first | (at_builtin; go_loud (refine wpList_append_own _ rfl _ _ 23 rfl w11.heap.size 3 i0 (.int .i64 0) 1 8 Tryz.underlying23 hi hz0 hz1 hz2 rfl (by decide) _ _ _ rfl (S1.out.owns (.cells #[.int .i64 y] 3)) ⟨wr.heap.size, 0, none⟩ 1 1 [.int .i64 y] rfl rfl (lit1CW _ _ _) (lit1OW _) (by unfold maxLen; omega) (by omega) (by have := S1.out.hg.size; simp; omega) ?_; intro v5 x6 o5 g5 x5; obtain ⟨a5, c5, rfl⟩ := sliceOfRowW o5; have S7 := hid (S1.out.push y o5 g5); clear o5 g5 x5)))
          exact ⟨⟨j + 1, a5, c5, xs ++ [y], by omega, by go_num, rfl, (fun x hx => by rcases List.mem_append.1 hx with h1 | h1; exact HX.out x h1; simp at h1; subst h1; exact hyb), S7⟩, by simp [intOf]; omega⟩
        · have d1 : decide ((j : Int) < (n1 : Int)) = false := decide_eq_false (by omega)
          obtain rfl : j = n1 := by omega
          clear hlt AL2 HAB
          have c6 := pick_c S1.out.hc (by omega) hl 40 (by omega) (by omega)
          go_wp2_with fail
          refine c6.mono ?_
          rintro e w15 ⟨⟨u, hu, rfl⟩, gq, Cq⟩
          have S2 := hid (S1.out.draw gq Cq)
          clear gq Cq c6 S1 d1
          obtain ⟨ga, rfl⟩ := S2.out.addr (by omega)
          have hj0 : (0 : Int) < (j : Int) := by omega
          by_cases u0 : u = 0
          · subst u0
            have k2 := (S2.out.cell 0 (by omega)).1
            have hxl := S2.out.hl
            have hyb := HX.out (xs.getD 0 0) (by simp [List.getD, show 0 < xs.length by omega])
            obtain ⟨y, hy⟩ : ∃ y, xs.getD 0 0 = y := ⟨_, rfl⟩
            rw [hy] at k2 hyb
            clear hy
            go_wp2_with (first | (at_builtin; go_loud (refine wpList_append_own _ rfl _ _ 23 rfl w11.heap.size 3 i0 (.int .i64 0) 1 8 Tryz.underlying23 hi hz0 hz1 hz2 rfl (by decide) _ _ _ rfl (S2.out.owns (.cells #[.int .i64 y] 3)) ⟨w15.heap.size, 0, none⟩ 1 1 [.int .i64 y] rfl rfl (lit1CW _ _ _) (lit1OW _) (by unfold maxLen; omega) (by omega) (by have := S2.out.hg.size; simp; omega) ?_; intro v5 x6 o5 g5 x5; obtain ⟨a5, c5, rfl⟩ := sliceOfRowW o5; have S7 := hid (S2.out.push y o5 g5); clear o5 g5 x5)))
            go_ret
            exact ends_low HG2.out S7.out (by omega) (fun x hx => by rcases List.mem_append.1 hx with h1 | h1; exact HX.out x h1; simp at h1; subst h1; exact hyb) (by omega)
          have du : (u == 0) = false := by rw [beq_eq_false_iff_ne]; exact u0
          by_cases u1 : u = 1
          · subst u1
            have c7 := among_lit3 S2.out.hc (by omega) hl [1, 4, -3, 91] (by simp) (by simp) 3
            go_wp2_with fail
            refine c7.mono ?_
            rintro e w17 ⟨⟨y, hy, rfl⟩, gq, Cq⟩
            have S3 := hid (S2.out.draw gq Cq)
            clear gq Cq c7 S2
            have hyb : -1000 ≤ y ∧ y ≤ 268435456 := by simp at hy; omega
            clear hy
            have k2 := (S3.out.cell 0 (by omega)).1
            have k3 := (S3.out.cell 0 (by omega)).2
            have S4 := hid (S3.out.set 0 y)
            have HY : Hid (∀ x ∈ xs.set 0 y, -1000 ≤ x ∧ x ≤ 268435456) := fun x hx => by
              rcases List.mem_or_eq_of_mem_set hx with h | h
              · exact HX.out x h
              · omega
            go_wp2_with fail
            go_ret
            exact ends_low HG2.out S4.out (by omega) HY.out (by omega)
          have du1 : (u == 1) = false := by rw [beq_eq_false_iff_ne]; exact u1
          by_cases u2 : u = 2
          · subst u2
            have SN : Hid (RSt w11 code len c 0 (B + 2 + 2 + 2 + 2 + 2) none 0 [] w15) := RSt.new S2.out.hc S2.out.hg S2.out.hcl
            go_wp2_with fail
            go_ret
            exact ends_low HG2.out SN.out (by omega) (fun x hx => by cases hx) (by omega)
          have du2 : (u == 2) = false := by rw [beq_eq_false_iff_ne]; exact u2
          go_wp2_with fail
          go_ret
          exact ends_low HG2.out S2.out (by omega) HX.out (by omega)
    · have c4 := pick_c HC5.out (by omega) hl 2 (by omega) (by omega)
      go_wp2_with fail
      refine c4.mono ?_
      rintro e w6 ⟨⟨r6, hr6, rfl⟩, gq, Cq⟩
      have A6 := hid (A5.out.chg gq hgA)
      have G6 := hid (G5.out.trans gq)
      have HC6 := hid Cq
      clear gq Cq c4 A5 G5 HC5
      obtain ⟨n1, hn1, er⟩ : ∃ n1 : Nat, (1 ≤ n1 ∧ n1 ≤ 7) ∧ 6 + r6 = n1 := ⟨(6 + r6).toNat, by omega, by omega⟩
      have c5 := pick_c HC6.out (by omega) hl 7 (by omega) (by omega)
      go_wp2_with fail
      refine c5.mono ?_
      rintro e w11 ⟨⟨s, hs, rfl⟩, gq, Cq⟩
      have AL2 := hid (A6.out.chg gq hgA)
      have HG2 := hid (G6.out.trans gq)
      have SA0 : Hid (RSt w11 code len c 0 (B + 2 + 2 + 2 + 2 + 2) none 0 [] w11) := RSt.new Cq ((Old.refl w11).toChg _ _) (by have := HG2.out.size; omega)
      clear gq Cq c5 A6 G6
      go_wp2_with fail
      try rw [er]
      go_loopw [4, 7] (fun av kv W' => ∃ (j : Nat) (a : Option Addr) (cp : Nat) (xs : List Int), j ≤ n1 ∧ kv = .int .i64 (j : Int) ∧ av = .slice a j cp ∧ Hid (∀ x ∈ xs, -1000 ≤ x ∧ x ≤ 268435456) ∧ Hid (RSt w11 code len c j (B + 2 + 2 + 2 + 2 + 2) a cp xs W')) (fun _ kv _ => n1 - (intOf kv).toNat)
      case atStart => exact ⟨0, none, 0, [], by omega, rfl, rfl, (fun x hx => by cases hx), SA0⟩
      case round =>
        obtain ⟨j, a, cp, xs, hj, rfl, rfl, HX, S1⟩ := hrel
        clear SA0
        by_cases hlt : j < n1
        · have d1 : decide ((j : Int) < (n1 : Int)) = true := decide_eq_true (by omega)
          have em : (s + (j : Int)).tmod 7 = (s + (j : Int)) % 7 := Int.tmod_eq_emod_of_nonneg (by omega)
          obtain ⟨i, hi1, ei⟩ : ∃ i : Nat, i < 7 ∧ (s + (j : Int)) % 7 = (i : Int) := ⟨((s + (j : Int)) % 7).toNat, by omega, by omega⟩
          rw [ei] at em
          have cv := (AL2.out.chg S1.out.hg hgA).2 i hi1
          have hyb := HAB.out i hi1
          obtain ⟨y, hy⟩ : ∃ y, al.getD i 0 = y := ⟨_, rfl⟩
          rw [hy] at cv hyb
          clear hy
          have hi2 : (i : Int) < 7 := by omega
          go_wp2_with (first | (at_builtin; go_loud (refine wpList_append_own _ rfl _ _ 23 rfl w11.heap.size 3 i0 (.int .i64 0) 1 8 Tryz.underlying23 hi hz0 hz1 hz2 rfl (by decide) _ _ _ rfl (S1.out.owns (.cells #[.int .i64 y] 3)) ⟨wr.heap.size, 0, none⟩ 1 1 [.int .i64 y] rfl rfl (lit1CW _ _ _) (lit1OW _) (by unfold maxLen; omega) (by omega) (by have := S1.out.hg.size; simp; omega) ?_; intro v5 x6 o5 g5 x5; obtain ⟨a5, c5, rfl⟩ := sliceOfRowW o5; have S7 := hid (S1.out.push y o5 g5); clear o5 g5 x5)))
          exact ⟨⟨j + 1, a5, c5, xs ++ [y], by omega, by go_num, rfl, (fun x hx => by rcases List.mem_append.1 hx with h1 | h1; exact HX.out x h1; simp at h1; subst h1; exact hyb), S7⟩, by simp [intOf]; omega⟩
        · have d1 : decide ((j : Int) < (n1 : Int)) = false := decide_eq_false (by omega)
          obtain rfl : j = n1 := by omega
          clear hlt AL2 HAB
          have c6 := pick_c S1.out.hc (by omega) hl 40 (by omega) (by omega)
          go_wp2_with fail
          refine c6.mono ?_
          rintro e w15 ⟨⟨u, hu, rfl⟩, gq, Cq⟩
          have S2 := hid (S1.out.draw gq Cq)
          clear gq Cq c6 S1 d1
          obtain ⟨ga, rfl⟩ := S2.out.addr (by omega)
          have hj0 : (0 : Int) < (j : Int) := by omega
          by_cases u0 : u = 0
          · subst u0
            have k2 := (S2.out.cell 0 (by omega)).1
            have hxl := S2.out.hl
            have hyb := HX.out (xs.getD 0 0) (by simp [List.getD, show 0 < xs.length by omega])
            obtain ⟨y, hy⟩ : ∃ y, xs.getD 0 0 = y := ⟨_, rfl⟩
            rw [hy] at k2 hyb
            clear hy
            go_wp2_with (first | (at_builtin; go_loud (refine wpList_append_own _ rfl _ _ 23 rfl w11.heap.size 3 i0 (.int .i64 0) 1 8 Tryz.underlying23 hi hz0 hz1 hz2 rfl (by decide) _ _ _ rfl (S2.out.owns (.cells #[.int .i64 y] 3)) ⟨w15.heap.size, 0, none⟩ 1 1 [.int .i64 y] rfl rfl (lit1CW _ _ _) (lit1OW _) (by unfold maxLen; omega) (by omega) (by have := S2.out.hg.size; simp; omega) ?_; intro v5 x6 o5 g5 x5; obtain ⟨a5, c5, rfl⟩ := sliceOfRowW o5; have S7 := hid (S2.out.push y o5 g5); clear o5 g5 x5)))
            go_ret
            exact ends_low HG2.out S7.out (by omega) (fun x hx => by rcases List.mem_append.1 hx with h1 | h1; exact HX.out x h1; simp at h1; subst h1; exact hyb) (by omega)
          have du : (u == 0) = false := by rw [beq_eq_false_iff_ne]; exact u0
          by_cases u1 : u = 1
          · subst u1
            have c7 := among_lit3 S2.out.hc (by omega) hl [1, 4, -3, 91] (by simp) (by simp) 3
            go_wp2_with fail
            refine c7.mono ?_
            rintro e w17 ⟨⟨y, hy, rfl⟩, gq, Cq⟩
            have S3 := hid (S2.out.draw gq Cq)
            clear gq Cq c7 S2
            have hyb : -1000 ≤ y ∧ y ≤ 268435456 := by simp at hy; omega
            clear hy
            have k2 := (S3.out.cell 0 (by omega)).1
            have k3 := (S3.out.cell 0 (by omega)).2
            have S4 := hid (S3.out.set 0 y)
            have HY : Hid (∀ x ∈ xs.set 0 y, -1000 ≤ x ∧ x ≤ 268435456) := fun x hx => by
              rcases List.mem_or_eq_of_mem_set hx with h | h
              · exact HX.out x h
              · omega
            go_wp2_with fail
            go_ret
            exact ends_low HG2.out S4.out (by omega) HY.out (by omega)
          have du1 : (u == 1) = false := by rw [beq_eq_false_iff_ne]; exact u1
          by_cases u2 : u = 2
          · subst u2
            have SN : Hid (RSt w11 code len c 0 (B + 2 + 2 + 2 + 2 + 2 + 2) none 0 [] w15) := RSt.new S2.out.hc S2.out.hg S2.out.hcl
            go_wp2_with fail
            go_ret
            exact ends_low HG2.out SN.out (by omega) (fun x hx => by cases hx) (by omega)
          have du2 : (u == 2) = false := by rw [beq_eq_false_iff_ne]; exact u2
          go_wp2_with fail
          go_ret
          exact ends_low HG2.out S2.out (by omega) HX.out (by omega)
def TwLc (w : World) (e : Ending) (w' : World) : Prop :=
  ∃ r cr zs a ca xs, e = .returned (.tuple #[.slice r zs.length cr, .slice a xs.length ca]) ∧ Old w w' ∧ (zs.length ≤ 9 ∧ xs.length ≤ 8) ∧ xs.length ≤ ca ∧ (∀ x ∈ xs, -1000 ≤ x ∧ x ≤ 268435456) ∧ Row w' (.slice r zs.length cr) zs ∧ Row w' (.slice a xs.length ca) xs
set_option maxRecDepth 100000 in
set_option maxHeartbeats 8000000 in
theorem drawComp_c (w : World) (code : Value) (len : Nat) (h : BysW w code len) (hl : len ≤ 9223372036854775807) :
    Calls Tryz.prog 5 #[code] w (TwLc w) := by
  obtain ⟨ca0, ccap, hcode⟩ : ∃ ca ccap, code = .slice ca len ccap := by
    rcases h with ⟨a, cap, e, e2⟩ | ⟨b, o, cap, e, _⟩
    · exact ⟨a, cap, by rw [e, e2]⟩
    · exact ⟨_, cap, e⟩
  subst hcode
  have C0 := Cu.new h
  have HO0 : Hid (Old w (w.alloc (.cells #[.slice ca0 len ccap, .int .i64 0, .int .u64 0] 49))) := (Old.refl w).alloc _
  have c1 := basis_c C0 (by omega) hl
  have sz1 : (w.alloc (.cells #[.slice ca0 len ccap, .int .i64 0, .int .u64 0] 49)).heap.size = w.heap.size + 1 := by simp
  clear h C0
  go_enter Tryz.func5, Tryz.ntmps5
  go_wp2_with fail
  refine c1.mono ?_
  rintro e w2 ⟨a, ca, xs, rfl, hx8, hxb, g2, C2, o2⟩
  have hcap := own_cap o2
  have ra := RwB.own o2
  rw [sz1] at ra
  have HO2 : Hid (Old w w2) := HO0.out.chg g2 (by omega)
  have c3 := residues_c C2 (by omega) hl (.slice a xs.length ca) xs ra (by omega) (by omega) hxb
  have HA := hid ra
  have HXB := hid hxb
  obtain ⟨lx, hlx⟩ : ∃ lx, xs.length = lx := ⟨_, rfl⟩
  have HLX : Hid (xs.length = lx) := hlx
  rw [hlx] at c3 hx8 hcap ⊢
  have H8 : Hid (lx ≤ 8 ∧ lx ≤ ca) := ⟨hx8, hcap⟩
  clear g2 C2 o2 ra hxb hlx c1 HO0 hx8 hcap
  go_wp2_with fail
  refine c3.mono ?_
  rintro e w3 ⟨r, cr, zs, rfl, hz, hzb, g3, C3, o3⟩
  have HO3 : Hid (Old w w3) := HO2.out.chg g3 (by omega)
  have RA := hid (HA.out.chg g3 (Or.inl (by omega))).1
  have RZ := hid (Own.row o3)
  obtain ⟨lz, hlz⟩ : ∃ lz, zs.length = lz := ⟨_, rfl⟩
  have HLZ : Hid (zs.length = lz) := hlz
  have HZ3 : Hid (lz ≤ 9) := by have h1 := H8.out.1; have h2 := HLX.out; show lz ≤ 9; omega
  rw [hlz]
  clear g3 C3 o3 hz hzb hlz c3
  go_wp2_with fail
  refine bodyPost_ret (v := .tuple #[.slice r lz cr, .slice a lx ca]) (by simp [results, Tryz.results5, go_sem]) rfl ?_
  have h1 := H8.out
  have h2 := HLX.out
  have h4 := HLZ.out
  have h5 := HZ3.out
  exact ⟨r, cr, zs, a, ca, xs, by rw [h2, h4], HO3.out, ⟨by omega, by omega⟩, by omega, HXB.out, RZ.out, RA.out⟩
def WhLc (w : World) (e : Ending) (w' : World) : Prop :=
  ∃ n a ca ds b cb xs, e = .returned (.tuple #[.agg #[.bool n, .slice a ds.length ca], .slice b xs.length cb]) ∧ Old w w' ∧ (ds.length ≤ 41 ∧ xs.length ≤ 8) ∧ xs.length ≤ cb ∧ (∀ x ∈ xs, -1000 ≤ x ∧ x ≤ 268435456) ∧ Row w' (.slice a ds.length ca) ds ∧ Row w' (.slice b xs.length cb) xs
set_option maxRecDepth 100000 in
set_option maxHeartbeats 8000000 in
theorem drawRes_c (w : World) (code : Value) (len : Nat) (h : BysW w code len) (hl : len ≤ 9223372036854775807) :
    Calls Tryz.prog 11 #[code] w (WhLc w) := by
  obtain ⟨ca0, ccap, hcode⟩ : ∃ ca ccap, code = .slice ca len ccap := by
    rcases h with ⟨a, cap, e, e2⟩ | ⟨b, o, cap, e, _⟩
    · exact ⟨a, cap, by rw [e, e2]⟩
    · exact ⟨_, cap, e⟩
  subst hcode
  have C0 := Cu.new (bysW_oldX h ((Old.refl w).alloc (.cells #[.bool false, .slice none 0 0] 27)))
  rw [show (w.alloc (.cells #[.bool false, .slice none 0 0] 27)).heap.size = w.heap.size + 1 by simp] at C0
  have HO0 : Hid (Old w ((w.alloc (.cells #[.bool false, .slice none 0 0] 27)).alloc (.cells #[.slice ca0 len ccap, .int .i64 0, .int .u64 0] 49))) := ((Old.refl w).alloc _).alloc _
  have P0 : Hid (Bk ((w.alloc (.cells #[.bool false, .slice none 0 0] 27)).alloc (.cells #[.slice ca0 len ccap, .int .i64 0, .int .u64 0] 49)) w.heap.size #[.bool false, .slice none 0 0] 27) := (Bk.new' w _ _ rfl).alloc _
  have sz1 : ((w.alloc (.cells #[.bool false, .slice none 0 0] 27)).alloc (.cells #[.slice ca0 len ccap, .int .i64 0, .int .u64 0] 49)).heap.size = w.heap.size + 1 + 1 := by simp
  have c1 := whole_c C0 (by omega) hl
  clear h C0
  go_enter Tryz.func11, Tryz.ntmps11
  go_wp2_with fail
  refine c1.mono ?_
  rintro e w2 ⟨n, a, ca, ds, rfl, hd41, g2, C2, o2⟩
  have RD2 : Hid (RwB (w.heap.size + 1 + 1) w2.heap.size w2 (.slice a ds.length ca) ds) := (RwB.own o2).mono (by rw [sz1]; exact Nat.le_refl _) (Nat.le_refl _)
  have HO2 : Hid (Old w w2) := HO0.out.chg g2 (by omega)
  have P2 : Hid (Bk w2 w.heap.size #[.bool false, .slice none 0 0] 27) := P0.out.chg g2 (Or.inl (by omega))
  have c3 := basis_c C2 (by omega) hl
  obtain ⟨ld, hld⟩ : ∃ ld, ds.length = ld := ⟨_, rfl⟩
  have HLD : Hid (ds.length = ld) := hld
  rw [hld] at RD2 hd41 ⊢
  have HD41 : Hid (ld ≤ 41) := hd41
  clear g2 C2 o2 hld c1 HO0 P0 hd41
  go_wp2_with fail
  refine c3.mono ?_
  rintro e w3 ⟨b, cb, xs, rfl, hx8, hxb, g3, C3, o3⟩
  have hcap := own_cap o3
  have s23 := g3.size
  have s2 := RD2.out
  have hw2 : w.heap.size < w2.heap.size := P2.out.lt
  have RD3 := hid ((RD2.out.chg g3 (Or.inl (by omega))).mono (Nat.le_refl _) g3.size)
  have HO3 : Hid (Old w w3) := HO2.out.chg g3 (by omega)
  have P3 : Hid (Bk w3 w.heap.size #[.bool false, .slice none 0 0] 27) := P2.out.chg g3 (Or.inl (by omega))
  have RB3 := hid (RwB.own o3)
  obtain ⟨lx, hlx⟩ : ∃ lx, xs.length = lx := ⟨_, rfl⟩
  have HLX : Hid (xs.length = lx) := hlx
  have HXB := hid hxb
  rw [hlx] at RB3 hx8 hcap ⊢
  have H8 : Hid (lx ≤ 8 ∧ lx ≤ cb) := ⟨hx8, hcap⟩
  have HO4 : Hid (Old w ((w3.setCell ⟨w.heap.size, 0, none⟩ (.bool n)).setCell ⟨w.heap.size, 1, none⟩ (.slice a ld ca))) := (HO3.out.own (p := ⟨w.heap.size, 0, none⟩) (Nat.le_refl _) _).own (p := ⟨w.heap.size, 1, none⟩) (Nat.le_refl _) _
  have Q4 : Hid (Bk ((w3.setCell ⟨w.heap.size, 0, none⟩ (.bool n)).setCell ⟨w.heap.size, 1, none⟩ (.slice a ld ca)) w.heap.size #[.bool n, .slice a ld ca] 27) := bk_put1W (bk_put0W P3.out _) _
  have RD4 := hid (((RD3.out.set (p := ⟨w.heap.size, 0, none⟩) (Or.inl (by show w.heap.size < w.heap.size + 1 + 1; omega)) (.bool n)).set (p := ⟨w.heap.size, 1, none⟩) (Or.inl (by show w.heap.size < w.heap.size + 1 + 1; omega)) (.slice a ld ca))).1
  have RB4 := hid (((RB3.out.set (p := ⟨w.heap.size, 0, none⟩) (Or.inl (by show w.heap.size < w2.heap.size; omega)) (.bool n)).set (p := ⟨w.heap.size, 1, none⟩) (Or.inl (by show w.heap.size < w2.heap.size; omega)) (.slice a ld ca))).1
  have s0 := P3.out.c (i := 0) rfl
  have s1 := P3.out.c (i := 1) rfl
  have t0 := frozen_of_row _ _ 0 _ _ P3.out
  have t1 := frozen_of_row _ _ 1 _ _ P3.out
  have u0 := frozen_of_row _ _ 1 _ _ (bk_put0W P3.out (.bool n))
  have u1 := (bk_put0W P3.out (.bool n)).c (i := 1) rfl
  have q0 := Q4.out.c (i := 0) rfl
  have q1 := Q4.out.c (i := 1) rfl
  clear g3 C3 o3 hlx c3 HO3 RD2 RD3 RB3 P2 HO2 hx8 hcap hxb s2
  go_wp2_with fail
  refine bodyPost_ret (v := .tuple #[.agg #[.bool n, .slice a ld ca], .slice b lx cb]) (by simp [results, Tryz.results11, go_sem, q0, q1]) rfl ?_
  have h1 := H8.out
  have h2 := HLX.out
  have h4 := HLD.out
  have h5 := HD41.out
  exact ⟨n, a, ca, ds, b, cb, xs, by rw [h2, h4], HO4.out, ⟨by omega, by omega⟩, by omega, HXB.out, by rw [h4]; exact RD4.out, by rw [h2]; exact RB4.out⟩
end Go.Proofs.YtfcdfielbpdloaaGreatDoor
