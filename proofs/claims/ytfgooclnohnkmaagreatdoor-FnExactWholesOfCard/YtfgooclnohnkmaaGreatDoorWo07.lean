/- Proved: several texts in one: what each proves is said ahead of it. -/
import Derived.Deep.RegionHeld3
import Derived.Test.YtfgooclnohnkmaaGreatDoorWo06
/- Proved: spaces as a law carries them: what its functions on them do. -/
namespace Go.Proofs.YtfgooclnohnkmaaGreatDoor
open Go.ChangeShapes Go.WideShapes Go.ChangeAt Go.RowKit
set_option linter.unusedVariables false
set_option linter.unusedSimpArgs false
set_option maxHeartbeats 1000000 in
theorem szSpace_no (N : Int) (a : Option Addr) (len cap : Nat) (left : Int) (w : World) (hl : len ≤ 9223372036854775807) (h0 : 0 ≤ left) (h1 : left ≤ 1048576) (h : left < (len : Int)) :
    Calls Tryz.prog 23 #[.agg #[.int .i64 N, .slice a len cap], .int .i64 left] w fun e w' => e = .returned (.int .i64 (-1)) ∧ Old w w' := by
  have c := fun W => szInts_any a len cap left W hl h0 h1
  rw [if_pos h] at c
  go_enter Tryz.func23, Tryz.ntmps23
  go_wp2_with fail
  refine (c _).mono ?_
  rintro e w' ⟨rfl, rfl⟩
  go_wp2_with fail
  go_ret
  exact ⟨rfl, (Old.refl _).alloc _⟩
theorem szSpace_yes (N : Int) (a : Option Addr) (len cap : Nat) (left : Int) (w : World) (hl : len ≤ 9223372036854775807) (h0 : 0 ≤ left) (h1 : left ≤ 1048576) (h : ¬ left < (len : Int)) :
    Calls Tryz.prog 23 #[.agg #[.int .i64 N, .slice a len cap], .int .i64 left] w fun e w' => e = .returned (.int .i64 (left - len)) ∧ Old w w' := by
  have c := fun W => szInts_any a len cap left W hl h0 h1
  rw [if_neg h] at c
  have d : decide (left - (len : Int) < 0) = false := by simp; omega
  go_enter Tryz.func23, Tryz.ntmps23
  go_wp2_with fail
  refine (c _).mono ?_
  rintro e w' ⟨rfl, rfl⟩
  go_wp2_with fail
  go_ret
  exact ⟨rfl, (Old.refl _).alloc _⟩
set_option maxHeartbeats 1000000 in
theorem toSpace_any (N : Int) (xs : List Int) (v : Value) (w : World) (h : Row w v xs) (hl : xs.length ≤ 1048576) :
    Calls Tryz.prog 26 #[.agg #[.int .i64 N, v]] w fun e w' => ∃ v', e = .returned (.agg #[.int .i64 N, v']) ∧ Old w w' ∧ Own w' w.heap.size v' xs ∧ Fit v' := by
  have HR : Hid (Row w v xs) := h
  obtain ⟨a0, cap0, rfl⟩ := h.slice
  clear h
  go_enter Tryz.func26, Tryz.ntmps26
  go_wp2_with fail
  refine (toInts_any xs _ _ (HR.out.old (((Old.refl w).alloc _).alloc _ |>.alloc _)) hl).mono ?_
  rintro e w1 ⟨rfl, g1, o1⟩
  have q20 : w1.cell? ⟨w.heap.size + 1 + 1, 0, none⟩ = some (Value.int .i64 N) := (g1.cell (p := ⟨w.heap.size + 1 + 1, 0, none⟩) (by simp; try omega)).trans (by simp [cell_at, cell_lt, fro_at, fro_lt])
  have q21 : w1.cell? ⟨w.heap.size + 1 + 1, 1, none⟩ = some (Value.slice none 0 0) := (g1.cell (p := ⟨w.heap.size + 1 + 1, 1, none⟩) (by simp; try omega)).trans (by simp [cell_at, cell_lt, fro_at, fro_lt])
  have q10 : w1.cell? ⟨w.heap.size + 1, 0, none⟩ = some (Value.int .i64 0) := (g1.cell (p := ⟨w.heap.size + 1, 0, none⟩) (by simp; try omega)).trans (by simp [cell_at, cell_lt, fro_at, fro_lt])
  have q11 : w1.cell? ⟨w.heap.size + 1, 1, none⟩ = some (Value.slice none 0 0) := (g1.cell (p := ⟨w.heap.size + 1, 1, none⟩) (by simp; try omega)).trans (by simp [cell_at, cell_lt, fro_at, fro_lt])
  have f21 : w1.frozen? ⟨w.heap.size + 1 + 1, 1, none⟩ = false := (g1.frozen (p := ⟨w.heap.size + 1 + 1, 1, none⟩) (by simp; try omega)).trans (by simp [cell_at, cell_lt, fro_at, fro_lt])
  have f10 : w1.frozen? ⟨w.heap.size + 1, 0, none⟩ = false := (g1.frozen (p := ⟨w.heap.size + 1, 0, none⟩) (by simp; try omega)).trans (by simp [cell_at, cell_lt, fro_at, fro_lt])
  have f11 : w1.frozen? ⟨w.heap.size + 1, 1, none⟩ = false := (g1.frozen (p := ⟨w.heap.size + 1, 1, none⟩) (by simp; try omega)).trans (by simp [cell_at, cell_lt, fro_at, fro_lt])
  have HG : Hid (Old w w1) := Old.trans (((Old.refl w).alloc _).alloc _ |>.alloc _) g1
  have HO : Hid (Own w1 w.heap.size (.slice (some ⟨w.heap.size + 1 + 1 + 1, 0, none⟩) xs.length xs.length) xs) := by
    have := Own.low o1 (base' := w.heap.size) (by simp; omega)
    simp at this
    exact this
  clear g1 o1 HR
  go_wp2_with fail
  refine bodyPost_ret (v := .agg #[.int .i64 N, .slice (some ⟨w.heap.size + 1 + 1 + 1, 0, none⟩) xs.length xs.length]) (by simp [results, Tryz.results26, go_sem, q10, q11]) rfl ⟨_, rfl, ?_, ?_, Nat.le_refl _⟩
  · exact ((HG.out.own (p := ⟨w.heap.size + 1 + 1, 1, none⟩) (by simp; omega) _).own (p := ⟨w.heap.size + 1, 0, none⟩) (by simp) _).own (p := ⟨w.heap.size + 1, 1, none⟩) (by simp) _
  · exact ownsRow_setCell_other (ownsRow_setCell_other (ownsRow_setCell_other HO.out (by simp [Value.ownBlock]) _) (by simp [Value.ownBlock]; omega) _) (by simp [Value.ownBlock]; omega) _
set_option maxHeartbeats 1000000 in
theorem eqSpace_yes (N : Int) (xs : List Int) (v u : Value) (w : World) (h : Row w v xs) (k : Row w u xs) (hl : xs.length ≤ 1073741824) :
    Calls Tryz.prog 30 #[.agg #[.int .i64 N, v], .agg #[.int .i64 N, u]] w fun e w' => e = .returned (.bool true) ∧ Old w w' := by
  have HR : Hid (Row w v xs) := h
  have HK : Hid (Row w u xs) := k
  obtain ⟨a0, cap0, rfl⟩ := h.slice
  obtain ⟨a1, cap1, rfl⟩ := k.slice
  clear h k
  have dn : (N != N) = false := by simp
  go_enter Tryz.func30, Tryz.ntmps30
  go_wp2_with fail
  refine (eqInts_yes xs _ _ _ (HR.out.old (((Old.refl w).alloc _).alloc _)) (HK.out.old (((Old.refl w).alloc _).alloc _)) hl).mono ?_
  rintro e w1 ⟨rfl, g1⟩
  have HG : Hid (Old w w1) := Old.trans (((Old.refl w).alloc _).alloc _) g1
  clear g1
  go_wp2_with fail
  go_ret
  exact ⟨rfl, HG.out⟩
set_option maxHeartbeats 1000000 in
theorem markSpace_any (N : Int) (xs : List Int) (v : Value) (k : Int) (base : Nat) (w : World) (h : Own w base v xs) (hl : xs.length ≤ 1073741824) (hk : 0 ≤ k) (hk' : k ≤ 1073741824) :
    Calls Tryz.prog 32 #[.agg #[.int .i64 N, v], .int .i64 k] w fun e w' => e = .returned (.int .i64 (k + xs.length)) ∧ w.grownBy w' v.ownBlock ∧ Own w' base v (marks k xs.length) := by
  have HR : Hid (Own w base v xs) := h
  obtain ⟨a0, cap0, rfl⟩ := (Own.row h).slice
  clear h
  go_enter Tryz.func32, Tryz.ntmps32
  go_wp2_with fail
  refine (markInts_any xs _ k base _ (HR.out.alloc _) hl hk hk').mono ?_
  rintro e w1 ⟨rfl, g1, o1⟩
  have HG : Hid (w.grownBy w1 (Value.slice a0 xs.length cap0).ownBlock) := ⟨g1.os, g1.tape, g1.output, Nat.le_trans (by simp) g1.size, fun p hp hne => (g1.block p (by simp; omega) hne).trans (heap_alloc_old _ _ hp)⟩
  have HO : Hid (Own w1 base (.slice a0 xs.length cap0) (marks k xs.length)) := o1
  clear g1 o1
  go_wp2_with fail
  go_ret
  exact ⟨rfl, HG.out, HO.out⟩
/-- a space's copy -/
def XS (n : Int) (xs : List Int) (W : World) (lo hi : Nat) (g : Array Value) : Prop := ∃ a c, g = #[.int .i64 n, .slice a xs.length c] ∧ OwI xs W lo hi (.slice a xs.length c) ∧ xs.length ≤ c
theorem far_XS (n : Int) (xs : List Int) : Far (XS n xs) := fun W W' lo hi v h hf hs => by
  obtain ⟨a, c, e, o, f⟩ := h
  exact ⟨a, c, e, far_OwI xs W W' lo hi _ o hf hs, f⟩
theorem shape_XS {n : Int} {xs : List Int} (W : World) (lo hi : Nat) (g : Array Value) (h : XS n xs W lo hi g) : ∃ a c, g = #[.int .i64 n, .slice a xs.length c] := by
  obtain ⟨a, c, e, o, f⟩ := h
  exact ⟨a, c, e⟩
theorem ks_sz (n : Int) (a : Option Addr) (len cap : Nat) (left : Int) (W : World) (hl : len ≤ 9223372036854775807) (h0 : 0 ≤ left) (h1 : left ≤ 1048576) :
    Calls Tryz.prog 23 #[.agg #[.int .i64 n, .slice a len cap], .int .i64 left] W fun e w' => e = .returned (.int .i64 (leftN left len)) ∧ Old W w' := by
  unfold leftN
  split
  · rename_i h
    exact szSpace_no n a len cap left W hl h0 h1 h
  · rename_i h
    exact szSpace_yes n a len cap left W hl h0 h1 h
theorem ks_to (n : Int) (xs : List Int) (v : Value) (W : World) (h : Row W v xs) (hl : xs.length ≤ 1048576) :
    Calls Tryz.prog 26 #[.agg #[.int .i64 n, v]] W fun e w' => ∃ g, e = .returned (.agg g) ∧ Old W w' ∧ XS n xs w' W.heap.size w'.heap.size g := by
  refine (toSpace_any n xs v W h hl).mono ?_
  rintro e w' ⟨v', rfl, g, o, f⟩
  obtain ⟨a, c, rfl⟩ := (Own.row o).slice
  exact ⟨_, rfl, g, a, c, rfl, OwI.of o, f⟩
theorem ks_eq (n : Int) (xs : List Int) (W : World) (lo hi : Nat) (g : Array Value) (lo' hi' : Nat) (g' : Array Value) (h : XS n xs W lo hi g) (h' : XS n xs W lo' hi' g') (hl : xs.length ≤ 1073741824) :
    Calls Tryz.prog 30 #[.agg g, .agg g'] W fun e w' => e = .returned (.bool true) ∧ Old W w' := by
  obtain ⟨a, c, rfl, o, f⟩ := h
  obtain ⟨a', c', rfl, o', f'⟩ := h'
  exact eqSpace_yes n xs _ _ W o.row o'.row hl
theorem ks_mark (n : Int) (xs : List Int) (k : Int) (W : World) (lo hi : Nat) (g : Array Value) (h : XS n xs W lo hi g) (hl : xs.length ≤ 1048576) (hk : 0 ≤ k) (hk' : k ≤ 1073741824) :
    Calls Tryz.prog 32 #[.agg g, .int .i64 k] W fun e w' => e = .returned (.int .i64 (k + xs.length)) ∧ Chg W w' lo hi := by
  obtain ⟨a, c, rfl, o, f⟩ := h
  refine (markSpace_any n xs _ k lo W o.1 (by omega) hk hk').mono ?_
  rintro e w' ⟨rfl, gr, ow⟩
  exact ⟨rfl, (o.mark gr ow).1⟩
end Go.Proofs.YtfgooclnohnkmaaGreatDoor
/- Proved: rows of rows as a law carries them: sizes, copies, comparisons. -/
namespace Go.Proofs.YtfgooclnohnkmaaGreatDoor
open Go.ChangeShapes Go.WideShapes Go.ChangeAt Go.RowKit
set_option linter.unusedVariables false
set_option linter.unusedSimpArgs false
/-- v is a slice of rows, which lie in w -/
def RowS (w : World) (v : Value) (xss : List (List Int)) : Prop :=
  (∃ a cap, v = .slice a 0 cap ∧ xss = []) ∨ ∃ b o cap, ∃ us : Nat → Value, v = .slice (some ⟨b, o, none⟩) xss.length cap ∧ b < w.heap.size ∧ 0 < xss.length ∧ ∀ j, j < xss.length → w.cell? ⟨b, o + j, none⟩ = some (us j) ∧ Row w (us j) (xss.getD j [])
theorem RowS.old {w w' : World} {v : Value} {xss : List (List Int)} (h : RowS w v xss) (g : Old w w') : RowS w' v xss := by
  rcases h with h1 | ⟨b, o, cap, us, e, hb, h0, hc⟩
  · exact Or.inl h1
  · exact Or.inr ⟨b, o, cap, us, e, Nat.lt_of_lt_of_le hb g.size, h0, fun j hj => ⟨(g.cell (p := ⟨b, o + j, none⟩) hb).trans (hc j hj).1, (hc j hj).2.old g⟩⟩
theorem RowS.slice {w : World} {v : Value} {xss : List (List Int)} (h : RowS w v xss) : ∃ a cap, v = .slice a xss.length cap := by
  rcases h with ⟨a, cap, e, e2⟩ | ⟨b, o, cap, us, e, _⟩
  · exact ⟨a, cap, by rw [e, e2]; rfl⟩
  · exact ⟨_, cap, e⟩
/-- what is left of a bound behind rows -/
def leftL : Int → List (List Int) → Int
  | left, [] => left
  | left, r :: rs => if leftN left r.length < 0 then -1 else leftL (leftN left r.length) rs
def leftSS (left : Int) (xss : List (List Int)) : Int := if left < (xss.length : Int) then -1 else leftL (left - xss.length) xss
theorem leftL_ok : ∀ (xss : List (List Int)) (left : Int), 0 ≤ left → ¬ leftL left xss < 0 → 0 ≤ leftL left xss ∧ leftL left xss ≤ left ∧ ∀ r ∈ xss, (r.length : Int) ≤ left
  | [], left, h0, h => ⟨h0, Int.le_refl _, by simp⟩
  | r :: rs, left, h0, h => by
    unfold leftL at h ⊢
    by_cases hr : leftN left r.length < 0
    · rw [if_pos hr] at h
      omega
    · rw [if_neg hr] at h ⊢
      obtain ⟨q1, q2, q3⟩ := leftN_ok hr h0
      obtain ⟨p1, p2, p3⟩ := leftL_ok rs _ q3 h
      refine ⟨p1, by omega, fun x hx => ?_⟩
      rcases List.mem_cons.1 hx with rfl | hx
      · exact q1
      · have := p3 x hx
        omega
theorem leftSS_ok {xss : List (List Int)} {left : Int} (h0 : 0 ≤ left) (h : ¬ leftSS left xss < 0) : 0 ≤ leftSS left xss ∧ leftSS left xss ≤ left ∧ (xss.length : Int) ≤ left ∧ ∀ r ∈ xss, (r.length : Int) ≤ left := by
  unfold leftSS at h ⊢
  by_cases hr : left < (xss.length : Int)
  · rw [if_pos hr] at h
    omega
  · rw [if_neg hr] at h ⊢
    obtain ⟨p1, p2, p3⟩ := leftL_ok xss _ (by omega) h
    exact ⟨p1, by omega, by omega, fun r hr => by have := p3 r hr; omega⟩
theorem drop_cons (xss : List (List Int)) (k : Nat) (h : k < xss.length) : xss.drop k = xss.getD k [] :: xss.drop (k + 1) := by
  rw [List.drop_eq_getElem_cons h]
  simp [List.getD, h]
theorem ret_ii {a b : Int} (h : a = b) : Ending.returned (.int .i64 a) = .returned (.int .i64 b) := by rw [h]
set_option maxRecDepth 100000 in
set_option maxHeartbeats 2000000 in
theorem szIntSS_any (xss : List (List Int)) (v : Value) (left : Int) (w : World) (hv : RowS w v xss) (hl : xss.length ≤ 9223372036854775807) (hr : ∀ r ∈ xss, r.length ≤ 9223372036854775807) (h0 : 0 ≤ left) (h1 : left ≤ 1048576) :
    Calls Tryz.prog 82 #[v, .int .i64 left] w fun e w' => e = .returned (.int .i64 (leftSS left xss)) ∧ Old w w' := by
  obtain ⟨a0, cap0, ev⟩ := hv.slice
  subst ev
  by_cases hb : left < (xss.length : Int)
  · have d : decide (left - (xss.length : Int) < 0) = true := by simp; omega
    have HB : Hid (leftSS left xss = -1) := by show _ = _; unfold leftSS; rw [if_pos hb]
    clear hv hr hb
    go_enter Tryz.func82, Tryz.ntmps82
    go_wp2_with fail
    go_ret
    exact ⟨ret_ii HB.out.symm, Old.refl _⟩
  · have d : decide (left - (xss.length : Int) < 0) = false := by simp; omega
    have HB : Hid (leftL (left - xss.length) (xss.drop 0) = leftSS left xss) := by show _ = _; unfold leftSS; rw [if_neg hb]; rfl
    have hl2 : 0 ≤ left - (xss.length : Int) ∧ left - (xss.length : Int) ≤ 1048576 := by omega
    generalize leftSS left xss = R at *
    have HR : Hid (∀ r ∈ xss, r.length ≤ 9223372036854775807) := hr
    have HV : Hid (RowS w (.slice a0 xss.length cap0) xss) := hv
    clear hv hr
    go_enter Tryz.func82, Tryz.ntmps82
    go_wp2_with fail
    go_loopw [5, 1] (fun i l W => ∃ (k : Nat) (z : Int), k ≤ xss.length ∧ i = .int .i64 k ∧ l = .int .i64 z ∧ 0 ≤ z ∧ z ≤ 1048576 ∧ Hid (leftL z (xss.drop k) = R) ∧ W = w) (fun i _ _ => xss.length - (intOf i).toNat)
    case atStart => exact ⟨0, left - xss.length, by omega, rfl, rfl, by omega, by omega, HB, rfl⟩
    case round =>
      obtain ⟨k, z, hk, rfl, rfl, z0, z1, H1, hW⟩ := hrel
      obtain rfl : w = wr := hW.symm
      clear HB d hW
      by_cases hlt : k < xss.length
      · have d1 : decide ((k : Int) < (xss.length : Int)) = true := by simp; omega
        rcases HV.out with ⟨a, cap, e, e2⟩ | ⟨b, o, cap, us, e, hb2, h3, hc⟩
        · subst e2
          simp at hlt
        simp only [Value.slice.injEq, true_and] at e
        obtain ⟨rfl, rfl⟩ := e
        obtain ⟨c1, r1⟩ := hc k hlt
        obtain ⟨a1, cap1, e1⟩ := r1.slice
        rw [e1] at c1
        have hm : xss.getD k [] ∈ xss := by simp [List.getD, hlt]
        have hrl := HR.out _ hm
        have H2 : Hid ((if leftN z (xss.getD k []).length < 0 then -1 else leftL (leftN z (xss.getD k []).length) (xss.drop (k + 1))) = R) := by
          have := H1.out
          rw [drop_cons xss k hlt] at this
          unfold leftL at this
          exact this
        have cz := fun W => szInts_any a1 (xss.getD k []).length cap1 z W hrl z0 z1
        clear hc r1 e1 H1 hm
        generalize (xss.getD k []).length = m at *
        by_cases hz : leftN z m < 0
        · have H3 : Hid (-1 = R) := by have := H2.out; rw [if_pos hz] at this; exact this
          have hz2 : z < (m : Int) := by
            unfold leftN at hz
            split at hz
            · assumption
            · omega
          rw [if_pos hz2] at cz
          clear H2 hz hz2
          go_wp2_with fail
          refine (cz _).mono ?_
          rintro e w1 ⟨rfl, hw1⟩
          obtain rfl : w = w1 := hw1.symm
          go_wp2_with fail
          go_ret
          exact ⟨ret_ii H3.out, Old.refl _⟩
        · have H3 : Hid (leftL (leftN z m) (xss.drop (k + 1)) = R) := by have := H2.out; rw [if_neg hz] at this; exact this
          obtain ⟨q1, q2, q3⟩ := leftN_ok hz z0
          rw [q2] at H3 q3
          rw [if_neg (by omega)] at cz
          have d2 : decide (z - (m : Int) < 0) = false := by simp; omega
          clear H2 hz q2
          go_wp2_with fail
          refine (cz _).mono ?_
          rintro e w1 ⟨rfl, hw1⟩
          obtain rfl : w = w1 := hw1.symm
          go_wp2_with fail
          exact ⟨⟨k + 1, z - m, by omega, by go_num, rfl, by omega, by omega, H3, by first | rfl | trivial⟩, by simp [intOf]; omega⟩
      · have d1 : decide ((k : Int) < (xss.length : Int)) = false := by simp; omega
        have H2 : Hid (z = R) := by
          have := H1.out
          rw [List.drop_eq_nil_of_le (by omega)] at this
          unfold leftL at this
          exact this
        clear H1
        go_wp2_with fail
        go_ret
        exact ⟨ret_ii H2.out, Old.refl _⟩
theorem Tryz.infoInts : (Tryz.prog.info? 23).map (fun i => (i.zero, i.size, i.bytes)) = some (some (.slice none 0 0), 1, 24) := by kernel_rfl
/-- rows of one's own, no two in one block -/
def OwS (xss : List (List Int)) (W : World) (lo hi : Nat) (v : Value) : Prop :=
  hi ≤ W.heap.size ∧ ((v = .slice none 0 0 ∧ xss = []) ∨ ∃ (p cap : Nat) (vs : List Value), v = .slice (some ⟨p, 0, none⟩) xss.length cap ∧ xss.length ≤ cap ∧ lo ≤ p ∧ p < hi ∧ W.ownsRow lo 23 1 (.slice (some ⟨p, 0, none⟩) xss.length cap) xss.length vs ∧ vs.length = xss.length
    ∧ (∀ j, j < xss.length → ∃ a c, vs[j]? = some (.slice a (xss.getD j []).length c) ∧ (xss.getD j []).length ≤ c ∧ OwI (xss.getD j []) W lo hi (.slice a (xss.getD j []).length c) ∧ (∀ b, (Value.slice a (xss.getD j []).length c).ownBlock = some b → b ≠ p))
    ∧ (∀ (i j : Nat) (x y : Value) (b : Nat), i < j → vs[i]? = some x → vs[j]? = some y → x.ownBlock = some b → y.ownBlock = some b → False))
set_option maxRecDepth 100000 in
set_option maxHeartbeats 2000000 in
theorem toIntSS_any (xss : List (List Int)) (v : Value) (w : World) (hv : RowS w v xss) (hl : xss.length ≤ 1048576) (hr : ∀ r ∈ xss, r.length ≤ 1048576) :
    Calls Tryz.prog 86 #[v] w fun e w' => ∃ v', e = .returned v' ∧ Old w w' ∧ OwS xss w' w.heap.size w'.heap.size v' ∧ ∃ a c, v' = .slice a xss.length c := by
  obtain ⟨i0, hi, hz0, hz1, hz2⟩ := info_parts Tryz.infoInts
  obtain ⟨a0, cap0, ev⟩ := hv.slice
  subst ev
  have HR : Hid (∀ r ∈ xss, r.length ≤ 1048576) := hr
  have HV : Hid (RowS w (.slice a0 xss.length cap0) xss) := hv
  clear hv hr
  go_enter Tryz.func86, Tryz.ntmps86
  go_wp2_with (at_make; refine wpList_make_full _ rfl _ _ 48 rfl w.heap.size 23 i0 (.slice none 0 0) 1 Tryz.underlying48 hi hz0 hz1 .i64 .i64 _ _ xss.length rfl rfl rfl rfl (by rw [hz2]; omega) (by unfold maxLen; omega) (Nat.le_refl _) ?_; intro w1 hown hgrow)
  have hmade : (madeCells (Value.slice none 0 0).cells (xss.length * 1)).toList = List.replicate xss.length (Value.slice none 0 0) := by
    rw [Nat.mul_one]
    exact toList_madeCells_one (.slice none 0 0) xss.length
  rw [hmade] at hown
  have HO : Hid (w1.ownsRow w.heap.size 23 1 (.slice (some ⟨w.heap.size, 0, none⟩) xss.length xss.length) xss.length (List.replicate xss.length (Value.slice none 0 0))) := hown
  have HG : Hid (Old w w1) := Below.grown (Below.refl _ _) hgrow (Nat.le_refl _) (fun _ h => by cases h)
  have hs1 : w.heap.size < w1.heap.size := (hown.lt w.heap.size rfl).2
  clear hown hgrow hmade
  go_loopw [4] (fun i W => ∃ (k : Nat) (vs : List Value), k ≤ xss.length ∧ i = .int .i64 k ∧ Hid (W.ownsRow w.heap.size 23 1 (.slice (some ⟨w.heap.size, 0, none⟩) xss.length xss.length) xss.length vs) ∧ Hid (vs.length = xss.length) ∧ Hid (Old w W)
    ∧ Hid (∀ j, j < k → ∃ a c, vs[j]? = some (.slice a (xss.getD j []).length c) ∧ (xss.getD j []).length ≤ c ∧ OwI (xss.getD j []) W w.heap.size W.heap.size (.slice a (xss.getD j []).length c) ∧ (∀ b, (Value.slice a (xss.getD j []).length c).ownBlock = some b → b ≠ w.heap.size))
    ∧ Hid (∀ (i j : Nat) (x y : Value) (b : Nat), i < j → j < k → vs[i]? = some x → vs[j]? = some y → x.ownBlock = some b → y.ownBlock = some b → False)) (fun i _ => xss.length - (intOf i).toNat)
  case atStart => exact ⟨0, _, by omega, rfl, HO, by show _ = _; simp, HG, fun j hj => by omega, fun i j x y b h1 h2 => by omega⟩
  case round =>
    obtain ⟨k, vs, hk, rfl, H1, HL, HG1, H2, H3⟩ := hrel
    clear HO HG
    by_cases hlt : k < xss.length
    · have d1 : decide ((k : Int) < (xss.length : Int)) = true := by simp; omega
      rcases HV.out with ⟨a, cap, e, e2⟩ | ⟨b, o, cap, us, e, hb2, h3, hc⟩
      · subst e2
        simp at hlt
      simp only [Value.slice.injEq, true_and] at e
      obtain ⟨rfl, rfl⟩ := e
      obtain ⟨c0, r0⟩ := hc k hlt
      have hm : xss.getD k [] ∈ xss := by simp [List.getD, hlt]
      have hrl := HR.out _ hm
      obtain ⟨a1, cap1, e1⟩ := r0.slice
      rw [e1] at c0 r0
      have c1 : wr.cell? ⟨b, o + k, none⟩ = some (.slice a1 (xss.getD k []).length cap1) := (HG1.out.cell (p := ⟨b, o + k, none⟩) hb2).trans c0
      have HR1 : Hid (Row wr (.slice a1 (xss.getD k []).length cap1) (xss.getD k [])) := r0.old HG1.out
      obtain ⟨xs, hxs⟩ : ∃ xs, xss.getD k [] = xs := ⟨_, rfl⟩
      have HXS : Hid (xss.getD k [] = xs) := hxs
      rw [hxs] at c1 HR1 hrl
      clear hc c0 r0 e1 hm hxs
      go_wp2_with fail
      refine (toInts_any xs _ _ HR1.out hrl).mono ?_
      rintro e w2 ⟨rfl, g2, o2⟩
      have hsr : w.heap.size < wr.heap.size := (H1.out.lt w.heap.size rfl).2
      have H4 : Hid (w2.ownsRow w.heap.size 23 1 (.slice (some ⟨w.heap.size, 0, none⟩) xss.length xss.length) xss.length vs) := by
        refine ⟨H1.out.1, ?_⟩
        rcases H1.out.2 with hn | ⟨p, cap', cur, e, hb', hgg, rest⟩
        · exact .inl hn
        · refine .inr ⟨p, cap', cur, e, hb', ?_, rest⟩
          rw [g2.block p (Array.getElem?_eq_some_iff.1 hgg).1]
          exact hgg
      have hvl : vs.length = xss.length := HL.out
      obtain ⟨y, hy⟩ : ∃ y, vs[k]? = some y := ⟨vs[k]'(by omega), List.getElem?_eq_getElem (by omega)⟩
      have c2 : w2.cell? ⟨w.heap.size, k, none⟩ = some y := by
        rw [World.ownsRow.cellAt H4.out k (by omega)]
        exact hy
      have c3 : w2.frozen? ⟨w.heap.size, k, none⟩ = false := World.ownsRow.frozenAt H4.out k
      have H5 : Hid ((w2.setCell ⟨w.heap.size, k, none⟩ (.slice (some ⟨wr.heap.size, 0, none⟩) xs.length xs.length)).ownsRow w.heap.size 23 1 (.slice (some ⟨w.heap.size, 0, none⟩) xss.length xss.length) xss.length (vs.set k (.slice (some ⟨wr.heap.size, 0, none⟩) xs.length xs.length))) := (World.ownsRow.stored H4.out k (.slice (some ⟨wr.heap.size, 0, none⟩) xs.length xs.length)).1
      have HG2 : Hid (Old w w2) := Old.trans HG1.out g2
      have HG3 : Hid (Old w (w2.setCell ⟨w.heap.size, k, none⟩ (.slice (some ⟨wr.heap.size, 0, none⟩) xs.length xs.length))) := HG2.out.own (Nat.le_refl _) _
      have hfar : ∀ bb, w.heap.size < bb → (w2.setCell ⟨w.heap.size, k, none⟩ (.slice (some ⟨wr.heap.size, 0, none⟩) xs.length xs.length)).heap[bb]? = w2.heap[bb]? := fun bb hbb => heap_setCell_other _ _ _ _ (by show bb ≠ w.heap.size; omega)
      have hsz : (w2.setCell ⟨w.heap.size, k, none⟩ (.slice (some ⟨wr.heap.size, 0, none⟩) xs.length xs.length)).heap.size = w2.heap.size := by simp
      have hown3 : Own (w2.setCell ⟨w.heap.size, k, none⟩ (.slice (some ⟨wr.heap.size, 0, none⟩) xs.length xs.length)) w.heap.size (.slice (some ⟨wr.heap.size, 0, none⟩) xs.length xs.length) xs := Own.low (ownsRow_setCell_other o2 (by simp [Value.ownBlock]; omega) _) (by omega)
      have H6 : Hid (∀ j, j < k + 1 → ∃ a c, (vs.set k (.slice (some ⟨wr.heap.size, 0, none⟩) xs.length xs.length))[j]? = some (.slice a (xss.getD j []).length c) ∧ (xss.getD j []).length ≤ c ∧ OwI (xss.getD j []) (w2.setCell ⟨w.heap.size, k, none⟩ (.slice (some ⟨wr.heap.size, 0, none⟩) xs.length xs.length)) w.heap.size (w2.setCell ⟨w.heap.size, k, none⟩ (.slice (some ⟨wr.heap.size, 0, none⟩) xs.length xs.length)).heap.size (.slice a (xss.getD j []).length c) ∧ (∀ b, (Value.slice a (xss.getD j []).length c).ownBlock = some b → b ≠ w.heap.size)) := fun j hj => by
        rcases Nat.lt_or_ge j k with hjk | hjk
        · obtain ⟨a, c, h1, h2, h3, h4⟩ := H2.out j hjk
          refine ⟨a, c, ?_, h2, ?_, h4⟩
          · rw [List.getElem?_set_ne (by omega)]
            exact h1
          · have h5 : Own w2 w.heap.size (.slice a (xss.getD j []).length c) (xss.getD j []) := h3.1.old g2
            refine ⟨?_, Nat.le_refl _, fun b hb => ?_⟩
            · exact ownsRow_setCell_other h5 (fun e => h4 _ e rfl) _
            · rw [hsz]
              exact (h5.lt b hb).2
        · obtain rfl : j = k := by omega
          rw [HXS.out]
          refine ⟨_, _, ?_, Nat.le_refl _, ⟨hown3, Nat.le_refl _, fun b hb => (hown3.lt b hb).2⟩, fun b hb => ?_⟩
          · rw [List.getElem?_set_self (by omega)]
          · simp [Value.ownBlock] at hb
            omega
      have H7 : Hid (∀ (i j : Nat) (x y : Value) (b : Nat), i < j → j < k + 1 → (vs.set k (.slice (some ⟨wr.heap.size, 0, none⟩) xs.length xs.length))[i]? = some x → (vs.set k (.slice (some ⟨wr.heap.size, 0, none⟩) xs.length xs.length))[j]? = some y → x.ownBlock = some b → y.ownBlock = some b → False) := fun i j x y b hij hjk hx hy' hbx hby => by
        rcases Nat.lt_or_ge j k with hjk2 | hjk2
        · rw [List.getElem?_set_ne (by omega)] at hx hy'
          exact H3.out i j x y b hij hjk2 hx hy' hbx hby
        · obtain rfl : j = k := by omega
          rw [List.getElem?_set_ne (by omega)] at hx
          rw [List.getElem?_set_self (by omega)] at hy'
          obtain ⟨a, c, h1, h2, h3, h4⟩ := H2.out i hij
          rw [h1] at hx
          obtain rfl := Option.some.inj hx
          obtain rfl := Option.some.inj hy'
          simp [Value.ownBlock] at hby
          have := h3.2.2 b hbx
          omega
      have H8 : Hid ((vs.set k (.slice (some ⟨wr.heap.size, 0, none⟩) xs.length xs.length)).length = xss.length) := by show _ = _; simp [hvl]
      clear H1 H2 H3 HL H4 hfar hsz hown3 g2 o2 hy hvl
      go_wp2_with fail
      exact ⟨⟨k + 1, _, by omega, by go_num, H5, H8, HG3, H6, H7⟩, by simp [intOf]; omega⟩
    · have d1 : decide ((k : Int) < (xss.length : Int)) = false := by simp; omega
      obtain rfl : k = xss.length := by omega
      go_wp2_with fail
      go_ret
      refine ⟨_, rfl, HG1.out, ⟨Nat.le_refl _, Or.inr ⟨w.heap.size, xss.length, vs, rfl, Nat.le_refl _, Nat.le_refl _, (H1.out.lt w.heap.size rfl).2, H1.out, HL.out, H2.out, fun i j x y b hij hx hy => ?_⟩⟩, _, _, rfl⟩
      have hj : j < xss.length := by
        have := HL.out
        have h4 := (List.getElem?_eq_some_iff.1 hy).1
        omega
      exact H3.out i j x y b hij hj hx hy
end Go.Proofs.YtfgooclnohnkmaaGreatDoor
/- Proved: slices of whole numbers as a law carries them: their size. -/
namespace Go.Proofs.YtfgooclnohnkmaaGreatDoor
open Go.ChangeShapes Go.WideShapes Go.ChangeAt Go.RowKit
set_option linter.unusedVariables false
set_option linter.unusedSimpArgs false
/-- a slice of whole numbers lies at v: signs and rows of limbs -/
def RowW (w : World) (v : Value) (bs : List Bool) (xss : List (List Int)) : Prop :=
  bs.length = xss.length ∧ ((∃ a cap, v = .slice a 0 cap ∧ xss = []) ∨ ∃ b o cap, ∃ us : Nat → Value, v = .slice (some ⟨b, o, none⟩) xss.length cap ∧ b < w.heap.size ∧ 0 < xss.length ∧ ∀ j, j < xss.length → w.cell? ⟨b, o + j * 2, none⟩ = some (.bool (bs.getD j false)) ∧ w.cell? ⟨b, o + j * 2 + 1, none⟩ = some (us j) ∧ Row w (us j) (xss.getD j []))
theorem RowW.old {w w' : World} {v : Value} {bs : List Bool} {xss : List (List Int)} (h : RowW w v bs xss) (g : Old w w') : RowW w' v bs xss := by
  obtain ⟨h0, h | ⟨b, o, cap, us, e, hb, h1, hc⟩⟩ := h
  · exact ⟨h0, .inl h⟩
  · exact ⟨h0, .inr ⟨b, o, cap, us, e, Nat.lt_of_lt_of_le hb g.size, h1, fun j hj => ⟨(g.cell (p := ⟨b, o + j * 2, none⟩) hb).trans (hc j hj).1, (g.cell (p := ⟨b, o + j * 2 + 1, none⟩) hb).trans (hc j hj).2.1, (hc j hj).2.2.old g⟩⟩⟩
theorem RowW.slice {w : World} {v : Value} {bs : List Bool} {xss : List (List Int)} (h : RowW w v bs xss) : ∃ a c, v = .slice a xss.length c := by
  obtain ⟨_, ⟨a, cap, e, e2⟩ | ⟨b, o, cap, us, e, _⟩⟩ := h
  · subst e2
    exact ⟨a, cap, e⟩
  · exact ⟨_, _, e⟩
end Go.Proofs.YtfgooclnohnkmaaGreatDoor
/- Proved: slices of whole numbers as a law carries them: comparisons and copies. -/
namespace Go.Proofs.YtfgooclnohnkmaaGreatDoor
open Go.ChangeShapes Go.WideShapes Go.ChangeAt Go.RowKit
set_option linter.unusedVariables false
set_option linter.unusedSimpArgs false
/-- whole numbers of one's own: signs and limbs -/
abbrev elW (bs : List Bool) (xss : List (List Int)) : Nat → Thing := fun j => TB (bs.getD j false) (TI (xss.getD j []))
abbrev WS (bs : List Bool) (xss : List (List Int)) : Thing := TS 27 2 xss.length (elW bs xss)
theorem good_elW (bs : List Bool) (xss : List (List Int)) (j : Nat) : GoodT (elW bs xss j) := good_TB _ (good_TI _)
theorem good_WS (bs : List Bool) (xss : List (List Int)) : GoodT (WS bs xss) := good_TS _ _ _ (good_elW bs xss)
/-- a struct's two cells -/
theorem TB.two {s : Bool} {E : Thing} {W : World} {B : Nat → Prop} {cs : List Value} (h : TB s E W B cs) : ∃ x, cs[0]? = some (.bool s) ∧ cs[1]? = some x ∧ E W B [x] := by
  obtain ⟨x, rfl, h⟩ := h
  exact ⟨x, rfl, rfl, h⟩
theorem WS.rowW {bs : List Bool} {xss : List (List Int)} {W : World} {B : Nat → Prop} {v : Value} (hb : bs.length = xss.length) (h : WS bs xss W B [v]) : RowW W v bs xss := by
  refine ⟨hb, ?_⟩
  rcases h with ⟨h0, h1, _⟩ | ⟨p, cap, vs, Bs, e, hc, _⟩
  · simp at h1
    exact .inl ⟨none, 0, h1, List.length_eq_zero_iff.1 h0⟩
  · simp at e
    subst e
    rcases Nat.eq_zero_or_pos xss.length with h0 | h0
    · rw [h0]
      exact .inl ⟨_, _, rfl, List.length_eq_zero_iff.1 h0⟩
    · refine .inr ⟨p, 0, cap, fun j => (cellsJ 2 vs j).getD 1 (.slice none 0 0), rfl, ownsRow_lt hc.row, h0, fun j hj => ?_⟩
      obtain ⟨x, e0, e1, hE⟩ := TB.two (hc.el j hj)
      have c0 := hc.cell j 0 hj (by omega)
      have c1 := hc.cell j 1 hj (by omega)
      have ex : (cellsJ 2 vs j).getD 1 (.slice none 0 0) = x := by simp [List.getD, e1]
      show W.cell? ⟨p, 0 + j * 2, none⟩ = _ ∧ W.cell? ⟨p, 0 + j * 2 + 1, none⟩ = some ((cellsJ 2 vs j).getD 1 (.slice none 0 0)) ∧ Row W ((cellsJ 2 vs j).getD 1 (.slice none 0 0)) _
      rw [ex, Nat.zero_add]
      exact ⟨c0.trans e0, c1.trans e1, hE.row⟩
set_option maxRecDepth 100000 in
set_option maxHeartbeats 4000000 in
theorem eqWholeS_yes (bs : List Bool) (xss : List (List Int)) (v u : Value) (w : World) (hv : RowW w v bs xss) (hu : RowW w u bs xss) (hl : xss.length ≤ 1048576) (hr : ∀ r ∈ xss, r.length ≤ 1048576) :
    Calls Tryz.prog 29 #[v, u] w fun e w' => e = .returned (.bool true) ∧ Old w w' := by
  obtain ⟨a0, cap0, ev⟩ := hv.slice
  obtain ⟨a1, cap1, eu⟩ := hu.slice
  subst ev eu
  have HR : Hid (∀ r ∈ xss, r.length ≤ 1048576) := hr
  have HV : Hid (RowW w (.slice a0 xss.length cap0) bs xss) := hv
  have HU : Hid (RowW w (.slice a1 xss.length cap1) bs xss) := hu
  have dn : ((xss.length : Int) != (xss.length : Int)) = false := by simp
  clear hv hu hr
  go_enter Tryz.func29, Tryz.ntmps29
  go_wp2_with fail
  go_loopw [5] (fun i W => ∃ k : Nat, k ≤ xss.length ∧ i = .int .i64 k ∧ Hid (Old w W)) (fun i _ => xss.length - (intOf i).toNat)
  case atStart => exact ⟨0, by omega, rfl, Old.refl _⟩
  case round =>
    obtain ⟨k, hk, rfl, HG⟩ := hrel
    by_cases hlt : k < xss.length
    · have d1 : decide ((k : Int) < (xss.length : Int)) = true := by simp; omega
      obtain ⟨_, ⟨a, cap, e, e2⟩ | ⟨b, o, cap, us, e, hb2, h3, hc⟩⟩ := HV.out
      · subst e2
        simp at hlt
      obtain ⟨_, ⟨a', cap', e', e2'⟩ | ⟨b', o', cap', us', e', hb2', h3', hc'⟩⟩ := HU.out
      · subst e2'
        simp at hlt
      simp only [Value.slice.injEq, true_and] at e e'
      obtain ⟨rfl, rfl⟩ := e
      obtain ⟨rfl, rfl⟩ := e'
      obtain ⟨s0, c0, r0⟩ := hc k hlt
      obtain ⟨s0', c0', r0'⟩ := hc' k hlt
      have hm : xss.getD k [] ∈ xss := by simp [List.getD, hlt]
      have hrl := HR.out _ hm
      obtain ⟨x1, y1, e1⟩ := r0.slice
      obtain ⟨x2, y2, e3⟩ := r0'.slice
      rw [e1] at c0 r0
      rw [e3] at c0' r0'
      have q0 : wr.cell? ⟨b, o + k * 2, none⟩ = some (.bool (bs.getD k false)) := (HG.out.cell (p := ⟨b, o + k * 2, none⟩) hb2).trans s0
      have q1 : wr.cell? ⟨b, o + k * 2 + 1, none⟩ = some (.slice x1 (xss.getD k []).length y1) := (HG.out.cell (p := ⟨b, o + k * 2 + 1, none⟩) hb2).trans c0
      have q2 : wr.cell? ⟨b', o' + k * 2, none⟩ = some (.bool (bs.getD k false)) := (HG.out.cell (p := ⟨b', o' + k * 2, none⟩) hb2').trans s0'
      have q3 : wr.cell? ⟨b', o' + k * 2 + 1, none⟩ = some (.slice x2 (xss.getD k []).length y2) := (HG.out.cell (p := ⟨b', o' + k * 2 + 1, none⟩) hb2').trans c0'
      have R1 : Hid (Row wr (.slice x1 (xss.getD k []).length y1) (xss.getD k [])) := r0.old HG.out
      have R2 : Hid (Row wr (.slice x2 (xss.getD k []).length y2) (xss.getD k [])) := r0'.old HG.out
      have hbr : b < wr.heap.size := Nat.lt_of_lt_of_le hb2 HG.out.size
      have hbr' : b' < wr.heap.size := Nat.lt_of_lt_of_le hb2' HG.out.size
      generalize bs.getD k false = s at *
      generalize xss.getD k [] = xs at *
      have HAS : Hid (∀ W' : World, Old wr W' → (W'.cell? ⟨b, o + k * 2, none⟩ = some (.bool s) ∧ W'.cell? ⟨b, o + k * 2 + 1, none⟩ = some (.slice x1 xs.length y1) ∧ W'.cell? ⟨b', o' + k * 2, none⟩ = some (.bool s) ∧ W'.cell? ⟨b', o' + k * 2 + 1, none⟩ = some (.slice x2 xs.length y2))) := fun W' g => ⟨(g.cell (p := ⟨b, o + k * 2, none⟩) hbr).trans q0, (g.cell (p := ⟨b, o + k * 2 + 1, none⟩) hbr).trans q1, (g.cell (p := ⟨b', o' + k * 2, none⟩) hbr').trans q2, (g.cell (p := ⟨b', o' + k * 2 + 1, none⟩) hbr').trans q3⟩
      clear hc hc' c0 c0' s0 s0' r0 r0' e1 e3 hm
      go_wp2_with fail
      go_region_held3 (fun W' => W'.cell? ⟨b, o + k * 2, none⟩ = some (.bool s) ∧ W'.cell? ⟨b, o + k * 2 + 1, none⟩ = some (.slice x1 xs.length y1) ∧ W'.cell? ⟨b', o' + k * 2, none⟩ = some (.bool s) ∧ W'.cell? ⟨b', o' + k * 2 + 1, none⟩ = some (.slice x2 xs.length y2)) (first | with_reducible exact HAS.out _ GE.out | with_reducible exact HAS.out _ (Below.drew (Old.refl wr)) | with_reducible exact HAS.out _ (Old.refl wr)) (first
        | (go_at_call 43; refine (eqWhole_yes s xs _ _ _ (R1.out.old (Below.drew (Old.refl wr))) (R2.out.old (Below.drew (Old.refl wr))) (by omega)).mono ?_; rintro e w2 ⟨rfl, ge⟩; have GE : Hid (Old wr w2) := Old.trans (Below.drew (Old.refl wr)) ge; clear ge)
        | fail)
      have HG2 : Hid (Old w w2) := Old.trans HG.out GE.out
      go_wp2_with fail
      exact ⟨⟨k + 1, by omega, by go_num, HG2⟩, by simp [intOf]; omega⟩
    · have d1 : decide ((k : Int) < (xss.length : Int)) = false := by simp; omega
      go_wp2_with fail
      go_ret
      exact ⟨rfl, HG.out⟩
theorem cells_two {m k : Nat} {vs : List Value} (h : vs.length = m * 2) (hk : k < m) (x y : Value) : cellsJ 2 ((vs.set (k * 2 + 0) x).set (k * 2 + 1) y) k = [x, y] := by
  have hl := cellsJ_len (n := 2) h k hk
  rw [cellsJ_set 2 _ k 1 k y (by omega), if_pos rfl, cellsJ_set 2 _ k 0 k x (by omega), if_pos rfl]
  match cellsJ 2 vs k, hl with
  | [a, b], _ => rfl
theorem TSc.store2 {T : TypeId} {m k : Nat} {Es : Nat → Thing} {W : World} {p cap : Nat} {vs : List Value} {Bs : Nat → Nat → Prop} {B : Nat → Prop} (g : ∀ j, GoodT (Es j)) (h : TSc T 2 m k Es W p cap vs Bs) (hk : k < m) (x y : Value)
    (he : ∀ W' : World, (∀ b, b ≠ p → W'.heap[b]? = W.heap[b]?) → Es k W' B [x, y]) (hp : ¬ B p) (hd : ∀ j, j < k → ∀ b, Bs j b → B b → False) :
    ∃ vs', TSc T 2 m (k + 1) Es ((W.setCell ⟨p, k * 2, none⟩ x).setCell ⟨p, k * 2 + 1, none⟩ y) p cap vs' (fun q => if q = k then B else Bs q) := by
  have h1 := h.fill g 0 (by omega) x
  have h2 := h1.fill g 1 (by omega) y
  refine ⟨_, h2.more (B := B) ?_ hp hd⟩
  rw [cells_two h.row.1 hk x y]
  refine he _ (fun b hb => ?_)
  rw [heap_setCell_other _ _ _ _ hb]
  exact heap_setCell_other _ _ _ _ hb
theorem Tryz.infoWhole : (Tryz.prog.info? 27).map (fun i => (i.zero, i.size, i.bytes)) = some (some (.agg #[.bool false, .slice none 0 0]), 2, 32) := by kernel_rfl
end Go.Proofs.YtfgooclnohnkmaaGreatDoor
/- Proved: rows of rows as a law carries them: comparisons, and rows with their mark. -/
namespace Go.Proofs.YtfgooclnohnkmaaGreatDoor
open Go.ChangeShapes Go.WideShapes Go.ChangeAt Go.RowKit
set_option linter.unusedVariables false
set_option linter.unusedSimpArgs false
theorem OwS.rowS {xss : List (List Int)} {W : World} {lo hi : Nat} {v : Value} (h : OwS xss W lo hi v) : RowS W v xss := by
  obtain ⟨hh, h | ⟨p, cap, vs, rfl, hcap, hlo, hhi, ho, hvl, hj, hd⟩⟩ := h
  · obtain ⟨rfl, rfl⟩ := h
    exact Or.inl ⟨_, _, rfl, rfl⟩
  · rcases Nat.eq_zero_or_pos xss.length with h0 | h0
    · obtain rfl := List.length_eq_zero_iff.1 h0
      exact Or.inl ⟨_, _, rfl, rfl⟩
    · refine Or.inr ⟨p, 0, cap, fun j => vs.getD j (.slice none 0 0), rfl, by omega, h0, fun j hjl => ?_⟩
      obtain ⟨a, c, e, hc, o, hb⟩ := hj j hjl
      have e2 : vs.getD j (.slice none 0 0) = .slice a (xss.getD j []).length c := by simp [List.getD, e]
      show W.cell? ⟨p, 0 + j, none⟩ = some (vs.getD j (.slice none 0 0)) ∧ Row W (vs.getD j (.slice none 0 0)) _
      rw [e2]
      refine ⟨?_, o.row⟩
      rw [Nat.zero_add, World.ownsRow.cellAt ho j (by omega)]
      exact e
theorem OwS.fit {xss : List (List Int)} {W : World} {lo hi : Nat} {v : Value} (h : OwS xss W lo hi v) (j : Nat) (hj : j < xss.length) : ∃ p cap a c, v = .slice (some ⟨p, 0, none⟩) xss.length cap ∧ W.cell? ⟨p, j, none⟩ = some (.slice a (xss.getD j []).length c) ∧ (xss.getD j []).length ≤ c ∧ Row W (.slice a (xss.getD j []).length c) (xss.getD j []) := by
  obtain ⟨hh, h | ⟨p, cap, vs, rfl, hcap, hlo, hhi, ho, hvl, hjj, hd⟩⟩ := h
  · obtain ⟨rfl, rfl⟩ := h
    simp at hj
  · obtain ⟨a, c, e, hc, o, hb⟩ := hjj j hj
    refine ⟨p, cap, a, c, rfl, ?_, hc, o.row⟩
    rw [World.ownsRow.cellAt ho j (by omega)]
    exact e
theorem far_OwS (xss : List (List Int)) : Far (OwS xss) := fun W W' lo hi v h hf hs => by
  obtain ⟨hh, h | ⟨p, cap, vs, e, hcap, hlo, hhi, ho, hvl, hj, hd⟩⟩ := h
  · exact ⟨by omega, Or.inl h⟩
  · refine ⟨by omega, Or.inr ⟨p, cap, vs, e, hcap, hlo, hhi, ⟨ho.1, ?_⟩, hvl, fun j hjl => ?_, hd⟩⟩
    · rcases ho.2 with hn | ⟨p', cap', cur, e', hb', hgg, rest⟩
      · exact .inl hn
      · refine .inr ⟨p', cap', cur, e', hb', ?_, rest⟩
        have : p' = p := by
          simp only [Value.slice.injEq, Option.some.injEq, Addr.mk.injEq] at e'
          exact e'.1.1.symm
        subst this
        rw [hf p' hlo hhi]
        exact hgg
    · obtain ⟨a, c, e1, hc, o, hb⟩ := hj j hjl
      exact ⟨a, c, e1, hc, far_OwI _ W W' lo hi _ o hf hs, hb⟩
set_option maxRecDepth 100000 in
set_option maxHeartbeats 2000000 in
theorem eqIntSS_yes (xss : List (List Int)) (v u : Value) (w : World) (hv : RowS w v xss) (hu : RowS w u xss) (hl : xss.length ≤ 1048576) (hr : ∀ r ∈ xss, r.length ≤ 1048576) :
    Calls Tryz.prog 89 #[v, u] w fun e w' => e = .returned (.bool true) ∧ Old w w' := by
  obtain ⟨a0, cap0, ev⟩ := hv.slice
  obtain ⟨a1, cap1, eu⟩ := hu.slice
  subst ev eu
  have HR : Hid (∀ r ∈ xss, r.length ≤ 1048576) := hr
  have HV : Hid (RowS w (.slice a0 xss.length cap0) xss) := hv
  have HU : Hid (RowS w (.slice a1 xss.length cap1) xss) := hu
  have dn : ((xss.length : Int) != (xss.length : Int)) = false := by simp
  clear hv hu hr
  go_enter Tryz.func89, Tryz.ntmps89
  go_wp2_with fail
  go_loopw [5] (fun i W => ∃ k : Nat, k ≤ xss.length ∧ i = .int .i64 k ∧ Hid (Old w W)) (fun i _ => xss.length - (intOf i).toNat)
  case atStart => exact ⟨0, by omega, rfl, Old.refl _⟩
  case round =>
    obtain ⟨k, hk, rfl, HG⟩ := hrel
    by_cases hlt : k < xss.length
    · have d1 : decide ((k : Int) < (xss.length : Int)) = true := by simp; omega
      rcases HV.out with ⟨a, cap, e, e2⟩ | ⟨b, o, cap, us, e, hb2, h3, hc⟩
      · subst e2
        simp at hlt
      rcases HU.out with ⟨a', cap', e', e2'⟩ | ⟨b', o', cap', us', e', hb2', h3', hc'⟩
      · subst e2'
        simp at hlt
      simp only [Value.slice.injEq, true_and] at e e'
      obtain ⟨rfl, rfl⟩ := e
      obtain ⟨rfl, rfl⟩ := e'
      obtain ⟨c0, r0⟩ := hc k hlt
      obtain ⟨c0', r0'⟩ := hc' k hlt
      have hm : xss.getD k [] ∈ xss := by simp [List.getD, hlt]
      have hrl := HR.out _ hm
      obtain ⟨x1, y1, e1⟩ := r0.slice
      obtain ⟨x2, y2, e3⟩ := r0'.slice
      rw [e1] at c0 r0
      rw [e3] at c0' r0'
      have q1 : wr.cell? ⟨b, o + k, none⟩ = some (.slice x1 (xss.getD k []).length y1) := (HG.out.cell (p := ⟨b, o + k, none⟩) hb2).trans c0
      have q2 : wr.cell? ⟨b', o' + k, none⟩ = some (.slice x2 (xss.getD k []).length y2) := (HG.out.cell (p := ⟨b', o' + k, none⟩) hb2').trans c0'
      have R1 : Hid (Row wr (.slice x1 (xss.getD k []).length y1) (xss.getD k [])) := r0.old HG.out
      have R2 : Hid (Row wr (.slice x2 (xss.getD k []).length y2) (xss.getD k [])) := r0'.old HG.out
      have hbr : b < wr.heap.size := Nat.lt_of_lt_of_le hb2 HG.out.size
      have hbr' : b' < wr.heap.size := Nat.lt_of_lt_of_le hb2' HG.out.size
      generalize xss.getD k [] = xs at *
      have HAS : Hid (∀ W' : World, Old wr W' → (W'.cell? ⟨b, o + k, none⟩ = some (.slice x1 xs.length y1) ∧ W'.cell? ⟨b', o' + k, none⟩ = some (.slice x2 xs.length y2))) := fun W' g => ⟨(g.cell (p := ⟨b, o + k, none⟩) hbr).trans q1, (g.cell (p := ⟨b', o' + k, none⟩) hbr').trans q2⟩
      clear hc hc' c0 c0' r0 r0' e1 e3 hm
      go_wp2_with fail
      go_region_held3 (fun W' => W'.cell? ⟨b, o + k, none⟩ = some (.slice x1 xs.length y1) ∧ W'.cell? ⟨b', o' + k, none⟩ = some (.slice x2 xs.length y2)) (first | with_reducible exact HAS.out _ GE.out | with_reducible exact HAS.out _ (Below.drew (Old.refl wr)) | with_reducible exact HAS.out _ (Old.refl wr)) (first
        | (go_at_call 45; refine (eqInts_yes xs _ _ _ (R1.out.old (Below.drew (Old.refl wr))) (R2.out.old (Below.drew (Old.refl wr))) (by omega)).mono ?_; rintro e w2 ⟨rfl, ge⟩; have GE : Hid (Old wr w2) := Old.trans (Below.drew (Old.refl wr)) ge; clear ge)
        | fail)
      have HG2 : Hid (Old w w2) := Old.trans HG.out GE.out
      go_wp2_with fail
      exact ⟨⟨k + 1, by omega, by go_num, HG2⟩, by simp [intOf]; omega⟩
    · have d1 : decide ((k : Int) < (xss.length : Int)) = false := by simp; omega
      go_wp2_with fail
      go_ret
      exact ⟨rfl, HG.out⟩
theorem OwS.slice {xss : List (List Int)} {W : World} {lo hi : Nat} {v : Value} (h : OwS xss W lo hi v) : ∃ a c, v = .slice a xss.length c := h.rowS.slice
theorem OwS.put {xss : List (List Int)} {W : World} {lo hi k j : Nat} {v x : Value} (h : OwS xss W lo hi v) (hk : k < lo ∨ hi ≤ k) : OwS xss (W.setCell ⟨k, j, none⟩ x) lo hi v :=
  far_OwS xss W _ lo hi v h (fun b h1 h2 => heap_setCell_other _ _ _ _ (by show b ≠ k; omega)) (by simp)
theorem OwS.low {xss : List (List Int)} {W : World} {lo lo' hi : Nat} {v : Value} (h : OwS xss W lo hi v) (hl : lo' ≤ lo) : OwS xss W lo' hi v := by
  obtain ⟨hh, h | ⟨p, cap, vs, e, hcap, hlo, hhi, ho, hvl, hj, hd⟩⟩ := h
  · exact ⟨hh, Or.inl h⟩
  · refine ⟨hh, Or.inr ⟨p, cap, vs, e, hcap, by omega, hhi, ⟨ho.1, ?_⟩, hvl, fun j hjl => ?_, hd⟩⟩
    · rcases ho.2 with hn | ⟨p', cap', cur, e', hb', rest⟩
      · exact .inl hn
      · exact .inr ⟨p', cap', cur, e', by omega, rest⟩
    · obtain ⟨a, c, e1, hc, o, hb⟩ := hj j hjl
      exact ⟨a, c, e1, hc, ⟨Own.low o.1 hl, o.2.1, o.2.2⟩, hb⟩
theorem OwS.high {xss : List (List Int)} {W : World} {lo hi hi' : Nat} {v : Value} (h : OwS xss W lo hi v) (hl : hi ≤ hi') (hs : hi' ≤ W.heap.size) : OwS xss W lo hi' v := by
  obtain ⟨hh, h | ⟨p, cap, vs, e, hcap, hlo, hhi, ho, hvl, hj, hd⟩⟩ := h
  · exact ⟨hs, Or.inl h⟩
  · refine ⟨hs, Or.inr ⟨p, cap, vs, e, hcap, hlo, by omega, ho, hvl, fun j hjl => ?_, hd⟩⟩
    obtain ⟨a, c, e1, hc, o, hb⟩ := hj j hjl
    exact ⟨a, c, e1, hc, ⟨o.1, hs, fun b hb => by have := o.2.2 b hb; omega⟩, hb⟩
/-- rows' copy -/
def XR (n : Bool) (xss : List (List Int)) (W : World) (lo hi : Nat) (g : Array Value) : Prop := ∃ a c, g = #[.bool n, .slice a xss.length c] ∧ OwS xss W lo hi (.slice a xss.length c)
theorem far_XR (n : Bool) (xss : List (List Int)) : Far (XR n xss) := fun W W' lo hi v h hf hs => by
  obtain ⟨a, c, e, o⟩ := h
  exact ⟨a, c, e, far_OwS xss W W' lo hi _ o hf hs⟩
theorem shape_XR {n : Bool} {xss : List (List Int)} (W : World) (lo hi : Nat) (g : Array Value) (h : XR n xss W lo hi g) : ∃ a c, g = #[.bool n, .slice a xss.length c] := by
  obtain ⟨a, c, e, o⟩ := h
  exact ⟨a, c, e⟩
theorem kr_sz (n : Bool) (xss : List (List Int)) (v : Value) (left : Int) (w : World) (hv : RowS w v xss) (hl : xss.length ≤ 9223372036854775807) (hr : ∀ r ∈ xss, r.length ≤ 9223372036854775807) (h0 : 0 ≤ left) (h1 : left ≤ 1048576) :
    Calls Tryz.prog 24 #[.agg #[.bool n, v], .int .i64 left] w fun e w' => e = .returned (.int .i64 (leftSS left xss)) ∧ Old w w' := by
  have c := fun W (h : RowS W v xss) => szIntSS_any xss v left W h hl hr h0 h1
  have HV : Hid (RowS w v xss) := hv
  obtain ⟨a0, cap0, ev⟩ := hv.slice
  subst ev
  have hle : ∀ z : Int, leftSS left xss = z → ¬ z < 0 → 0 ≤ z := fun z _ h => by omega
  have hneg : leftSS left xss < 0 → leftSS left xss = -1 := fun h => by
    unfold leftSS at h ⊢
    split
    · rfl
    · rename_i h2
      rw [if_neg h2] at h
      have key : ∀ (l : List (List Int)) (z : Int), 0 ≤ z → leftL z l < 0 → leftL z l = -1 := fun l => by
        induction l with
        | nil => intro z hz h; unfold leftL at h; omega
        | cons r rs ih =>
          intro z hz h
          unfold leftL at h ⊢
          by_cases hq : leftN z r.length < 0
          · rw [if_pos hq]
          · rw [if_neg hq] at h ⊢
            exact ih _ (by omega) h
      exact key _ _ (by omega) h
  clear hv hr
  by_cases hz : leftSS left xss < 0
  · rw [hneg hz] at c ⊢
    clear hz hneg hle
    go_enter Tryz.func24, Tryz.ntmps24
    go_wp2_with fail
    refine (c _ (HV.out.old ((Old.refl w).alloc _))).mono ?_
    rintro e w1 ⟨rfl, g1⟩
    have HG : Hid (Old w w1) := Old.trans ((Old.refl w).alloc _) g1
    clear g1
    go_wp2_with fail
    go_ret
    exact ⟨rfl, HG.out⟩
  · have d : decide (leftSS left xss < 0) = false := decide_eq_false hz
    generalize leftSS left xss = z at *
    clear hneg hle
    go_enter Tryz.func24, Tryz.ntmps24
    go_wp2_with fail
    refine (c _ (HV.out.old ((Old.refl w).alloc _))).mono ?_
    rintro e w1 ⟨rfl, g1⟩
    have HG : Hid (Old w w1) := Old.trans ((Old.refl w).alloc _) g1
    clear g1
    go_wp2_with fail
    go_ret
    exact ⟨rfl, HG.out⟩
set_option maxHeartbeats 1000000 in
theorem kr_to (n : Bool) (xss : List (List Int)) (v : Value) (w : World) (h : RowS w v xss) (hl : xss.length ≤ 1048576) (hr : ∀ r ∈ xss, r.length ≤ 1048576) :
    Calls Tryz.prog 27 #[.agg #[.bool n, v]] w fun e w' => ∃ g, e = .returned (.agg g) ∧ Old w w' ∧ XR n xss w' w.heap.size w'.heap.size g := by
  have HR : Hid (RowS w v xss) := h
  have HRR : Hid (∀ r ∈ xss, r.length ≤ 1048576) := hr
  obtain ⟨a0, cap0, ev⟩ := h.slice
  subst ev
  clear h hr
  go_enter Tryz.func27, Tryz.ntmps27
  go_wp2_with fail
  refine (toIntSS_any xss _ _ (HR.out.old (((Old.refl w).alloc _).alloc _ |>.alloc _)) hl HRR.out).mono ?_
  rintro e w1 ⟨v1, rfl, g1, o1, a1, c1, rfl⟩
  have q20 : w1.cell? ⟨w.heap.size + 1 + 1, 0, none⟩ = some (Value.bool n) := (g1.cell (p := ⟨w.heap.size + 1 + 1, 0, none⟩) (by simp; try omega)).trans (by simp [cell_at, cell_lt, fro_at, fro_lt])
  have q21 : w1.cell? ⟨w.heap.size + 1 + 1, 1, none⟩ = some (Value.slice none 0 0) := (g1.cell (p := ⟨w.heap.size + 1 + 1, 1, none⟩) (by simp; try omega)).trans (by simp [cell_at, cell_lt, fro_at, fro_lt])
  have q10 : w1.cell? ⟨w.heap.size + 1, 0, none⟩ = some (Value.bool false) := (g1.cell (p := ⟨w.heap.size + 1, 0, none⟩) (by simp; try omega)).trans (by simp [cell_at, cell_lt, fro_at, fro_lt])
  have q11 : w1.cell? ⟨w.heap.size + 1, 1, none⟩ = some (Value.slice none 0 0) := (g1.cell (p := ⟨w.heap.size + 1, 1, none⟩) (by simp; try omega)).trans (by simp [cell_at, cell_lt, fro_at, fro_lt])
  have f21 : w1.frozen? ⟨w.heap.size + 1 + 1, 1, none⟩ = false := (g1.frozen (p := ⟨w.heap.size + 1 + 1, 1, none⟩) (by simp; try omega)).trans (by simp [cell_at, cell_lt, fro_at, fro_lt])
  have f10 : w1.frozen? ⟨w.heap.size + 1, 0, none⟩ = false := (g1.frozen (p := ⟨w.heap.size + 1, 0, none⟩) (by simp; try omega)).trans (by simp [cell_at, cell_lt, fro_at, fro_lt])
  have f11 : w1.frozen? ⟨w.heap.size + 1, 1, none⟩ = false := (g1.frozen (p := ⟨w.heap.size + 1, 1, none⟩) (by simp; try omega)).trans (by simp [cell_at, cell_lt, fro_at, fro_lt])
  have HG : Hid (Old w w1) := Old.trans (((Old.refl w).alloc _).alloc _ |>.alloc _) g1
  have HO : Hid (OwS xss w1 (w.heap.size + 1 + 1 + 1) w1.heap.size (.slice a1 xss.length c1)) := by
    have := o1
    simp at this
    exact this
  clear g1 o1 HR
  go_wp2_with fail
  refine bodyPost_ret (v := .agg #[.bool n, .slice a1 xss.length c1]) (by simp [results, Tryz.results27, go_sem, q10, q11]) rfl ⟨_, rfl, ?_, a1, c1, rfl, ?_⟩
  · exact ((HG.out.own (p := ⟨w.heap.size + 1 + 1, 1, none⟩) (by simp; omega) _).own (p := ⟨w.heap.size + 1, 0, none⟩) (by simp) _).own (p := ⟨w.heap.size + 1, 1, none⟩) (by simp) _
  · have h1 : OwS xss w1 w.heap.size w1.heap.size (.slice a1 xss.length c1) := HO.out.low (by omega)
    have h2 := ((HO.out.put (k := w.heap.size + 1 + 1) (j := 1) (x := .slice a1 xss.length c1) (by omega)).put (k := w.heap.size + 1) (j := 0) (x := .bool n) (by omega)).put (k := w.heap.size + 1) (j := 1) (x := .slice a1 xss.length c1) (by omega)
    have h3 := h2.low (lo' := w.heap.size) (by omega)
    exact h3.high (by simp) (Nat.le_refl _)
set_option maxHeartbeats 1000000 in
theorem kr_eq (n : Bool) (xss : List (List Int)) (w : World) (lo hi : Nat) (g : Array Value) (lo' hi' : Nat) (g' : Array Value) (h : XR n xss w lo hi g) (h' : XR n xss w lo' hi' g') (hl : xss.length ≤ 1048576) (hr : ∀ r ∈ xss, r.length ≤ 1048576) :
    Calls Tryz.prog 31 #[.agg g, .agg g'] w fun e w' => e = .returned (.bool true) ∧ Old w w' := by
  obtain ⟨a0, cap0, rfl, o⟩ := h
  obtain ⟨a1, cap1, rfl, o'⟩ := h'
  have HR : Hid (RowS w (.slice a0 xss.length cap0) xss) := o.rowS
  have HK : Hid (RowS w (.slice a1 xss.length cap1) xss) := o'.rowS
  have HRR : Hid (∀ r ∈ xss, r.length ≤ 1048576) := hr
  clear o o' hr
  have dn : (n != n) = false := by simp
  go_enter Tryz.func31, Tryz.ntmps31
  go_wp2_with fail
  refine (eqIntSS_yes xss _ _ _ (HR.out.old (((Old.refl w).alloc _).alloc _)) (HK.out.old (((Old.refl w).alloc _).alloc _)) hl HRR.out).mono ?_
  rintro e w1 ⟨rfl, g1⟩
  have HG : Hid (Old w w1) := Old.trans (((Old.refl w).alloc _).alloc _) g1
  clear g1
  go_wp2_with fail
  go_ret
  exact ⟨rfl, HG.out⟩
end Go.Proofs.YtfgooclnohnkmaaGreatDoor
