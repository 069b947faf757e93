/- Proved: several texts in one: what each proves is said ahead of it. -/
import Derived.Test.YtinldhoimnbkhaaDoorDb03
import Derived.Deep.RegionHeld3
/- Proved: rows of rows as a law carries them: sizes, copies, comparisons. -/
namespace Go.Proofs.YtinldhoimnbkhaaDoor
open Go.ChangeShapes Go.WideShapes Go.ChangeAt Go.RowKit
set_option linter.unusedVariables false
set_option linter.unusedSimpArgs false
/-- v is a slice of rows, which lie in w -/
def RowS (w : World) (v : Value) (xss : List (List Int)) : Prop :=
  (∃ a cap, v = .slice a 0 cap ∧ xss = []) ∨ ∃ b o cap, ∃ us : Nat → Value, v = .slice (some ⟨b, o, none⟩) xss.length cap ∧ b < w.heap.size ∧ 0 < xss.length ∧ ∀ j, j < xss.length → w.cell? ⟨b, o + j, none⟩ = some (us j) ∧ Row w (us j) (xss.getD j [])
theorem RowS.old {w w' : World} {v : Value} {xss : List (List Int)} (h : RowS w v xss) (g : Old w w') : RowS w' v xss := by
  rcases h with h1 | ⟨b, o, cap, us, e, hb, h0, hc⟩
  · exact Or.inl h1
  · exact Or.inr ⟨b, o, cap, us, e, Nat.lt_of_lt_of_le hb g.size, h0, fun j hj => ⟨(g.cell (p := ⟨b, o + j, none⟩) hb).trans (hc j hj).1, (hc j hj).2.old g⟩⟩
theorem RowS.slice {w : World} {v : Value} {xss : List (List Int)} (h : RowS w v xss) : ∃ a cap, v = .slice a xss.length cap := by
  rcases h with ⟨a, cap, e, e2⟩ | ⟨b, o, cap, us, e, _⟩
  · exact ⟨a, cap, by rw [e, e2]; rfl⟩
  · exact ⟨_, cap, e⟩
/-- what is left of a bound behind rows -/
def leftL : Int → List (List Int) → Int
  | left, [] => left
  | left, r :: rs => if leftN left r.length < 0 then -1 else leftL (leftN left r.length) rs
def leftSS (left : Int) (xss : List (List Int)) : Int := if left < (xss.length : Int) then -1 else leftL (left - xss.length) xss
theorem leftL_ok : ∀ (xss : List (List Int)) (left : Int), 0 ≤ left → ¬ leftL left xss < 0 → 0 ≤ leftL left xss ∧ leftL left xss ≤ left ∧ ∀ r ∈ xss, (r.length : Int) ≤ left
  | [], left, h0, h => ⟨h0, Int.le_refl _, by simp⟩
  | r :: rs, left, h0, h => by
    unfold leftL at h ⊢
    by_cases hr : leftN left r.length < 0
    · rw [if_pos hr] at h
      omega
    · rw [if_neg hr] at h ⊢
      obtain ⟨q1, q2, q3⟩ := leftN_ok hr h0
      obtain ⟨p1, p2, p3⟩ := leftL_ok rs _ q3 h
      refine ⟨p1, by omega, fun x hx => ?_⟩
      rcases List.mem_cons.1 hx with rfl | hx
      · exact q1
      · have := p3 x hx
        omega
theorem leftSS_ok {xss : List (List Int)} {left : Int} (h0 : 0 ≤ left) (h : ¬ leftSS left xss < 0) : 0 ≤ leftSS left xss ∧ leftSS left xss ≤ left ∧ (xss.length : Int) ≤ left ∧ ∀ r ∈ xss, (r.length : Int) ≤ left := by
  unfold leftSS at h ⊢
  by_cases hr : left < (xss.length : Int)
  · rw [if_pos hr] at h
    omega
  · rw [if_neg hr] at h ⊢
    obtain ⟨p1, p2, p3⟩ := leftL_ok xss _ (by omega) h
    exact ⟨p1, by omega, by omega, fun r hr => by have := p3 r hr; omega⟩
theorem drop_cons (xss : List (List Int)) (k : Nat) (h : k < xss.length) : xss.drop k = xss.getD k [] :: xss.drop (k + 1) := by
  rw [List.drop_eq_getElem_cons h]
  simp [List.getD, h]
theorem ret_ii {a b : Int} (h : a = b) : Ending.returned (.int .i64 a) = .returned (.int .i64 b) := by rw [h]
set_option maxRecDepth 100000 in
set_option maxHeartbeats 2000000 in
theorem szIntSS_any (xss : List (List Int)) (v : Value) (left : Int) (w : World) (hv : RowS w v xss) (hl : xss.length ≤ 9223372036854775807) (hr : ∀ r ∈ xss, r.length ≤ 9223372036854775807) (h0 : 0 ≤ left) (h1 : left ≤ 1048576) :
    Calls Tryd.prog 51 #[v, .int .i64 left] w fun e w' => e = .returned (.int .i64 (leftSS left xss)) ∧ Old w w' := by
  obtain ⟨a0, cap0, ev⟩ := hv.slice
  subst ev
  by_cases hb : left < (xss.length : Int)
  · have d : decide (left - (xss.length : Int) < 0) = true := by simp; omega
    have HB : Hid (leftSS left xss = -1) := by show _ = _; unfold leftSS; rw [if_pos hb]
    clear hv hr hb
    go_enter Tryd.func51, Tryd.ntmps51
    go_wp2_with fail
    go_ret
    exact ⟨ret_ii HB.out.symm, Old.refl _⟩
  · have d : decide (left - (xss.length : Int) < 0) = false := by simp; omega
    have HB : Hid (leftL (left - xss.length) (xss.drop 0) = leftSS left xss) := by show _ = _; unfold leftSS; rw [if_neg hb]; rfl
    have hl2 : 0 ≤ left - (xss.length : Int) ∧ left - (xss.length : Int) ≤ 1048576 := by omega
    generalize leftSS left xss = R at *
    have HR : Hid (∀ r ∈ xss, r.length ≤ 9223372036854775807) := hr
    have HV : Hid (RowS w (.slice a0 xss.length cap0) xss) := hv
    clear hv hr
    go_enter Tryd.func51, Tryd.ntmps51
    go_wp2_with fail
    go_loopw [5, 1] (fun i l W => ∃ (k : Nat) (z : Int), k ≤ xss.length ∧ i = .int .i64 k ∧ l = .int .i64 z ∧ 0 ≤ z ∧ z ≤ 1048576 ∧ Hid (leftL z (xss.drop k) = R) ∧ W = w) (fun i _ _ => xss.length - (intOf i).toNat)
    case atStart => exact ⟨0, left - xss.length, by omega, rfl, rfl, by omega, by omega, HB, rfl⟩
    case round =>
      obtain ⟨k, z, hk, rfl, rfl, z0, z1, H1, hW⟩ := hrel
      obtain rfl : w = wr := hW.symm
      clear HB d hW
      by_cases hlt : k < xss.length
      · have d1 : decide ((k : Int) < (xss.length : Int)) = true := by simp; omega
        rcases HV.out with ⟨a, cap, e, e2⟩ | ⟨b, o, cap, us, e, hb2, h3, hc⟩
        · subst e2
          simp at hlt
        simp only [Value.slice.injEq, true_and] at e
        obtain ⟨rfl, rfl⟩ := e
        obtain ⟨c1, r1⟩ := hc k hlt
        obtain ⟨a1, cap1, e1⟩ := r1.slice
        rw [e1] at c1
        have hm : xss.getD k [] ∈ xss := by simp [List.getD, hlt]
        have hrl := HR.out _ hm
        have H2 : Hid ((if leftN z (xss.getD k []).length < 0 then -1 else leftL (leftN z (xss.getD k []).length) (xss.drop (k + 1))) = R) := by
          have := H1.out
          rw [drop_cons xss k hlt] at this
          unfold leftL at this
          exact this
        have cz := fun W => szInts_any a1 (xss.getD k []).length cap1 z W hrl z0 z1
        clear hc r1 e1 H1 hm
        generalize (xss.getD k []).length = m at *
        by_cases hz : leftN z m < 0
        · have H3 : Hid (-1 = R) := by have := H2.out; rw [if_pos hz] at this; exact this
          have hz2 : z < (m : Int) := by
            unfold leftN at hz
            split at hz
            · assumption
            · omega
          rw [if_pos hz2] at cz
          clear H2 hz hz2
          go_wp2_with fail
          refine (cz _).mono ?_
          rintro e w1 ⟨rfl, hw1⟩
          obtain rfl : w = w1 := hw1.symm
          go_wp2_with fail
          go_ret
          exact ⟨ret_ii H3.out, Old.refl _⟩
        · have H3 : Hid (leftL (leftN z m) (xss.drop (k + 1)) = R) := by have := H2.out; rw [if_neg hz] at this; exact this
          obtain ⟨q1, q2, q3⟩ := leftN_ok hz z0
          rw [q2] at H3 q3
          rw [if_neg (by omega)] at cz
          have d2 : decide (z - (m : Int) < 0) = false := by simp; omega
          clear H2 hz q2
          go_wp2_with fail
          refine (cz _).mono ?_
          rintro e w1 ⟨rfl, hw1⟩
          obtain rfl : w = w1 := hw1.symm
          go_wp2_with fail
          exact ⟨⟨k + 1, z - m, by omega, by go_num, rfl, by omega, by omega, H3, by first | rfl | trivial⟩, by simp [intOf]; omega⟩
      · have d1 : decide ((k : Int) < (xss.length : Int)) = false := by simp; omega
        have H2 : Hid (z = R) := by
          have := H1.out
          rw [List.drop_eq_nil_of_le (by omega)] at this
          unfold leftL at this
          exact this
        clear H1
        go_wp2_with fail
        go_ret
        exact ⟨ret_ii H2.out, Old.refl _⟩
theorem Tryd.infoInts : (Tryd.prog.info? 22).map (fun i => (i.zero, i.size, i.bytes)) = some (some (.slice none 0 0), 1, 24) := by kernel_rfl
/-- rows of one's own, no two in one block -/
def OwS (xss : List (List Int)) (W : World) (lo hi : Nat) (v : Value) : Prop :=
  hi ≤ W.heap.size ∧ ((v = .slice none 0 0 ∧ xss = []) ∨ ∃ (p cap : Nat) (vs : List Value), v = .slice (some ⟨p, 0, none⟩) xss.length cap ∧ xss.length ≤ cap ∧ lo ≤ p ∧ p < hi ∧ W.ownsRow lo 22 1 (.slice (some ⟨p, 0, none⟩) xss.length cap) xss.length vs ∧ vs.length = xss.length
    ∧ (∀ j, j < xss.length → ∃ a c, vs[j]? = some (.slice a (xss.getD j []).length c) ∧ (xss.getD j []).length ≤ c ∧ OwI (xss.getD j []) W lo hi (.slice a (xss.getD j []).length c) ∧ (∀ b, (Value.slice a (xss.getD j []).length c).ownBlock = some b → b ≠ p))
    ∧ (∀ (i j : Nat) (x y : Value) (b : Nat), i < j → vs[i]? = some x → vs[j]? = some y → x.ownBlock = some b → y.ownBlock = some b → False))
set_option maxRecDepth 100000 in
set_option maxHeartbeats 2000000 in
theorem toIntSS_any (xss : List (List Int)) (v : Value) (w : World) (hv : RowS w v xss) (hl : xss.length ≤ 1048576) (hr : ∀ r ∈ xss, r.length ≤ 1048576) :
    Calls Tryd.prog 54 #[v] w fun e w' => ∃ v', e = .returned v' ∧ Old w w' ∧ OwS xss w' w.heap.size w'.heap.size v' ∧ ∃ a c, v' = .slice a xss.length c := by
  obtain ⟨i0, hi, hz0, hz1, hz2⟩ := info_parts Tryd.infoInts
  obtain ⟨a0, cap0, ev⟩ := hv.slice
  subst ev
  have HR : Hid (∀ r ∈ xss, r.length ≤ 1048576) := hr
  have HV : Hid (RowS w (.slice a0 xss.length cap0) xss) := hv
  clear hv hr
  go_enter Tryd.func54, Tryd.ntmps54
  go_wp2_with (at_make; refine wpList_make_full _ rfl _ _ 25 rfl w.heap.size 22 i0 (.slice none 0 0) 1 Tryd.underlying25 hi hz0 hz1 .i64 .i64 _ _ xss.length rfl rfl rfl rfl (by rw [hz2]; omega) (by unfold maxLen; omega) (Nat.le_refl _) ?_; intro w1 hown hgrow)
  have hmade : (madeCells (Value.slice none 0 0).cells (xss.length * 1)).toList = List.replicate xss.length (Value.slice none 0 0) := by
    rw [Nat.mul_one]
    exact toList_madeCells_one (.slice none 0 0) xss.length
  rw [hmade] at hown
  have HO : Hid (w1.ownsRow w.heap.size 22 1 (.slice (some ⟨w.heap.size, 0, none⟩) xss.length xss.length) xss.length (List.replicate xss.length (Value.slice none 0 0))) := hown
  have HG : Hid (Old w w1) := Below.grown (Below.refl _ _) hgrow (Nat.le_refl _) (fun _ h => by cases h)
  have hs1 : w.heap.size < w1.heap.size := (hown.lt w.heap.size rfl).2
  clear hown hgrow hmade
  go_loopw [4] (fun i W => ∃ (k : Nat) (vs : List Value), k ≤ xss.length ∧ i = .int .i64 k ∧ Hid (W.ownsRow w.heap.size 22 1 (.slice (some ⟨w.heap.size, 0, none⟩) xss.length xss.length) xss.length vs) ∧ Hid (vs.length = xss.length) ∧ Hid (Old w W)
    ∧ Hid (∀ j, j < k → ∃ a c, vs[j]? = some (.slice a (xss.getD j []).length c) ∧ (xss.getD j []).length ≤ c ∧ OwI (xss.getD j []) W w.heap.size W.heap.size (.slice a (xss.getD j []).length c) ∧ (∀ b, (Value.slice a (xss.getD j []).length c).ownBlock = some b → b ≠ w.heap.size))
    ∧ Hid (∀ (i j : Nat) (x y : Value) (b : Nat), i < j → j < k → vs[i]? = some x → vs[j]? = some y → x.ownBlock = some b → y.ownBlock = some b → False)) (fun i _ => xss.length - (intOf i).toNat)
  case atStart => exact ⟨0, _, by omega, rfl, HO, by show _ = _; simp, HG, fun j hj => by omega, fun i j x y b h1 h2 => by omega⟩
  case round =>
    obtain ⟨k, vs, hk, rfl, H1, HL, HG1, H2, H3⟩ := hrel
    clear HO HG
    by_cases hlt : k < xss.length
    · have d1 : decide ((k : Int) < (xss.length : Int)) = true := by simp; omega
      rcases HV.out with ⟨a, cap, e, e2⟩ | ⟨b, o, cap, us, e, hb2, h3, hc⟩
      · subst e2
        simp at hlt
      simp only [Value.slice.injEq, true_and] at e
      obtain ⟨rfl, rfl⟩ := e
      obtain ⟨c0, r0⟩ := hc k hlt
      have hm : xss.getD k [] ∈ xss := by simp [List.getD, hlt]
      have hrl := HR.out _ hm
      obtain ⟨a1, cap1, e1⟩ := r0.slice
      rw [e1] at c0 r0
      have c1 : wr.cell? ⟨b, o + k, none⟩ = some (.slice a1 (xss.getD k []).length cap1) := (HG1.out.cell (p := ⟨b, o + k, none⟩) hb2).trans c0
      have HR1 : Hid (Row wr (.slice a1 (xss.getD k []).length cap1) (xss.getD k [])) := r0.old HG1.out
      obtain ⟨xs, hxs⟩ : ∃ xs, xss.getD k [] = xs := ⟨_, rfl⟩
      have HXS : Hid (xss.getD k [] = xs) := hxs
      rw [hxs] at c1 HR1 hrl
      clear hc c0 r0 e1 hm hxs
      go_wp2_with fail
      refine (toInts_any xs _ _ HR1.out hrl).mono ?_
      rintro e w2 ⟨rfl, g2, o2⟩
      have hsr : w.heap.size < wr.heap.size := (H1.out.lt w.heap.size rfl).2
      have H4 : Hid (w2.ownsRow w.heap.size 22 1 (.slice (some ⟨w.heap.size, 0, none⟩) xss.length xss.length) xss.length vs) := by
        refine ⟨H1.out.1, ?_⟩
        rcases H1.out.2 with hn | ⟨p, cap', cur, e, hb', hgg, rest⟩
        · exact .inl hn
        · refine .inr ⟨p, cap', cur, e, hb', ?_, rest⟩
          rw [g2.block p (Array.getElem?_eq_some_iff.1 hgg).1]
          exact hgg
      have hvl : vs.length = xss.length := HL.out
      obtain ⟨y, hy⟩ : ∃ y, vs[k]? = some y := ⟨vs[k]'(by omega), List.getElem?_eq_getElem (by omega)⟩
      have c2 : w2.cell? ⟨w.heap.size, k, none⟩ = some y := by
        rw [World.ownsRow.cellAt H4.out k (by omega)]
        exact hy
      have c3 : w2.frozen? ⟨w.heap.size, k, none⟩ = false := World.ownsRow.frozenAt H4.out k
      have H5 : Hid ((w2.setCell ⟨w.heap.size, k, none⟩ (.slice (some ⟨wr.heap.size, 0, none⟩) xs.length xs.length)).ownsRow w.heap.size 22 1 (.slice (some ⟨w.heap.size, 0, none⟩) xss.length xss.length) xss.length (vs.set k (.slice (some ⟨wr.heap.size, 0, none⟩) xs.length xs.length))) := (World.ownsRow.stored H4.out k (.slice (some ⟨wr.heap.size, 0, none⟩) xs.length xs.length)).1
      have HG2 : Hid (Old w w2) := Old.trans HG1.out g2
      have HG3 : Hid (Old w (w2.setCell ⟨w.heap.size, k, none⟩ (.slice (some ⟨wr.heap.size, 0, none⟩) xs.length xs.length))) := HG2.out.own (Nat.le_refl _) _
      have hfar : ∀ bb, w.heap.size < bb → (w2.setCell ⟨w.heap.size, k, none⟩ (.slice (some ⟨wr.heap.size, 0, none⟩) xs.length xs.length)).heap[bb]? = w2.heap[bb]? := fun bb hbb => heap_setCell_other _ _ _ _ (by show bb ≠ w.heap.size; omega)
      have hsz : (w2.setCell ⟨w.heap.size, k, none⟩ (.slice (some ⟨wr.heap.size, 0, none⟩) xs.length xs.length)).heap.size = w2.heap.size := by simp
      have hown3 : Own (w2.setCell ⟨w.heap.size, k, none⟩ (.slice (some ⟨wr.heap.size, 0, none⟩) xs.length xs.length)) w.heap.size (.slice (some ⟨wr.heap.size, 0, none⟩) xs.length xs.length) xs := Own.low (ownsRow_setCell_other o2 (by simp [Value.ownBlock]; omega) _) (by omega)
      have H6 : Hid (∀ j, j < k + 1 → ∃ a c, (vs.set k (.slice (some ⟨wr.heap.size, 0, none⟩) xs.length xs.length))[j]? = some (.slice a (xss.getD j []).length c) ∧ (xss.getD j []).length ≤ c ∧ OwI (xss.getD j []) (w2.setCell ⟨w.heap.size, k, none⟩ (.slice (some ⟨wr.heap.size, 0, none⟩) xs.length xs.length)) w.heap.size (w2.setCell ⟨w.heap.size, k, none⟩ (.slice (some ⟨wr.heap.size, 0, none⟩) xs.length xs.length)).heap.size (.slice a (xss.getD j []).length c) ∧ (∀ b, (Value.slice a (xss.getD j []).length c).ownBlock = some b → b ≠ w.heap.size)) := fun j hj => by
        rcases Nat.lt_or_ge j k with hjk | hjk
        · obtain ⟨a, c, h1, h2, h3, h4⟩ := H2.out j hjk
          refine ⟨a, c, ?_, h2, ?_, h4⟩
          · rw [List.getElem?_set_ne (by omega)]
            exact h1
          · have h5 : Own w2 w.heap.size (.slice a (xss.getD j []).length c) (xss.getD j []) := h3.1.old g2
            refine ⟨?_, Nat.le_refl _, fun b hb => ?_⟩
            · exact ownsRow_setCell_other h5 (fun e => h4 _ e rfl) _
            · rw [hsz]
              exact (h5.lt b hb).2
        · obtain rfl : j = k := by omega
          rw [HXS.out]
          refine ⟨_, _, ?_, Nat.le_refl _, ⟨hown3, Nat.le_refl _, fun b hb => (hown3.lt b hb).2⟩, fun b hb => ?_⟩
          · rw [List.getElem?_set_self (by omega)]
          · simp [Value.ownBlock] at hb
            omega
      have H7 : Hid (∀ (i j : Nat) (x y : Value) (b : Nat), i < j → j < k + 1 → (vs.set k (.slice (some ⟨wr.heap.size, 0, none⟩) xs.length xs.length))[i]? = some x → (vs.set k (.slice (some ⟨wr.heap.size, 0, none⟩) xs.length xs.length))[j]? = some y → x.ownBlock = some b → y.ownBlock = some b → False) := fun i j x y b hij hjk hx hy' hbx hby => by
        rcases Nat.lt_or_ge j k with hjk2 | hjk2
        · rw [List.getElem?_set_ne (by omega)] at hx hy'
          exact H3.out i j x y b hij hjk2 hx hy' hbx hby
        · obtain rfl : j = k := by omega
          rw [List.getElem?_set_ne (by omega)] at hx
          rw [List.getElem?_set_self (by omega)] at hy'
          obtain ⟨a, c, h1, h2, h3, h4⟩ := H2.out i hij
          rw [h1] at hx
          obtain rfl := Option.some.inj hx
          obtain rfl := Option.some.inj hy'
          simp [Value.ownBlock] at hby
          have := h3.2.2 b hbx
          omega
      have H8 : Hid ((vs.set k (.slice (some ⟨wr.heap.size, 0, none⟩) xs.length xs.length)).length = xss.length) := by show _ = _; simp [hvl]
      clear H1 H2 H3 HL H4 hfar hsz hown3 g2 o2 hy hvl
      go_wp2_with fail
      exact ⟨⟨k + 1, _, by omega, by go_num, H5, H8, HG3, H6, H7⟩, by simp [intOf]; omega⟩
    · have d1 : decide ((k : Int) < (xss.length : Int)) = false := by simp; omega
      obtain rfl : k = xss.length := by omega
      go_wp2_with fail
      go_ret
      refine ⟨_, rfl, HG1.out, ⟨Nat.le_refl _, Or.inr ⟨w.heap.size, xss.length, vs, rfl, Nat.le_refl _, Nat.le_refl _, (H1.out.lt w.heap.size rfl).2, H1.out, HL.out, H2.out, fun i j x y b hij hx hy => ?_⟩⟩, _, _, rfl⟩
      have hj : j < xss.length := by
        have := HL.out
        have h4 := (List.getElem?_eq_some_iff.1 hy).1
        omega
      exact H3.out i j x y b hij hj hx hy
end Go.Proofs.YtinldhoimnbkhaaDoor
/- Proved: rows of rows as a law carries them: comparisons, and rows with their mark. -/
namespace Go.Proofs.YtinldhoimnbkhaaDoor
open Go.ChangeShapes Go.WideShapes Go.ChangeAt Go.RowKit
set_option linter.unusedVariables false
set_option linter.unusedSimpArgs false
theorem OwS.rowS {xss : List (List Int)} {W : World} {lo hi : Nat} {v : Value} (h : OwS xss W lo hi v) : RowS W v xss := by
  obtain ⟨hh, h | ⟨p, cap, vs, rfl, hcap, hlo, hhi, ho, hvl, hj, hd⟩⟩ := h
  · obtain ⟨rfl, rfl⟩ := h
    exact Or.inl ⟨_, _, rfl, rfl⟩
  · rcases Nat.eq_zero_or_pos xss.length with h0 | h0
    · obtain rfl := List.length_eq_zero_iff.1 h0
      exact Or.inl ⟨_, _, rfl, rfl⟩
    · refine Or.inr ⟨p, 0, cap, fun j => vs.getD j (.slice none 0 0), rfl, by omega, h0, fun j hjl => ?_⟩
      obtain ⟨a, c, e, hc, o, hb⟩ := hj j hjl
      have e2 : vs.getD j (.slice none 0 0) = .slice a (xss.getD j []).length c := by simp [List.getD, e]
      show W.cell? ⟨p, 0 + j, none⟩ = some (vs.getD j (.slice none 0 0)) ∧ Row W (vs.getD j (.slice none 0 0)) _
      rw [e2]
      refine ⟨?_, o.row⟩
      rw [Nat.zero_add, World.ownsRow.cellAt ho j (by omega)]
      exact e
theorem far_OwS (xss : List (List Int)) : Far (OwS xss) := fun W W' lo hi v h hf hs => by
  obtain ⟨hh, h | ⟨p, cap, vs, e, hcap, hlo, hhi, ho, hvl, hj, hd⟩⟩ := h
  · exact ⟨by omega, Or.inl h⟩
  · refine ⟨by omega, Or.inr ⟨p, cap, vs, e, hcap, hlo, hhi, ⟨ho.1, ?_⟩, hvl, fun j hjl => ?_, hd⟩⟩
    · rcases ho.2 with hn | ⟨p', cap', cur, e', hb', hgg, rest⟩
      · exact .inl hn
      · refine .inr ⟨p', cap', cur, e', hb', ?_, rest⟩
        have : p' = p := by
          simp only [Value.slice.injEq, Option.some.injEq, Addr.mk.injEq] at e'
          exact e'.1.1.symm
        subst this
        rw [hf p' hlo hhi]
        exact hgg
    · obtain ⟨a, c, e1, hc, o, hb⟩ := hj j hjl
      exact ⟨a, c, e1, hc, far_OwI _ W W' lo hi _ o hf hs, hb⟩
set_option maxRecDepth 100000 in
set_option maxHeartbeats 2000000 in
theorem eqIntSS_yes (xss : List (List Int)) (v u : Value) (w : World) (hv : RowS w v xss) (hu : RowS w u xss) (hl : xss.length ≤ 1048576) (hr : ∀ r ∈ xss, r.length ≤ 1048576) :
    Calls Tryd.prog 56 #[v, u] w fun e w' => e = .returned (.bool true) ∧ Old w w' := by
  obtain ⟨a0, cap0, ev⟩ := hv.slice
  obtain ⟨a1, cap1, eu⟩ := hu.slice
  subst ev eu
  have HR : Hid (∀ r ∈ xss, r.length ≤ 1048576) := hr
  have HV : Hid (RowS w (.slice a0 xss.length cap0) xss) := hv
  have HU : Hid (RowS w (.slice a1 xss.length cap1) xss) := hu
  have dn : ((xss.length : Int) != (xss.length : Int)) = false := by simp
  clear hv hu hr
  go_enter Tryd.func56, Tryd.ntmps56
  go_wp2_with fail
  go_loopw [5] (fun i W => ∃ k : Nat, k ≤ xss.length ∧ i = .int .i64 k ∧ Hid (Old w W)) (fun i _ => xss.length - (intOf i).toNat)
  case atStart => exact ⟨0, by omega, rfl, Old.refl _⟩
  case round =>
    obtain ⟨k, hk, rfl, HG⟩ := hrel
    by_cases hlt : k < xss.length
    · have d1 : decide ((k : Int) < (xss.length : Int)) = true := by simp; omega
      rcases HV.out with ⟨a, cap, e, e2⟩ | ⟨b, o, cap, us, e, hb2, h3, hc⟩
      · subst e2
        simp at hlt
      rcases HU.out with ⟨a', cap', e', e2'⟩ | ⟨b', o', cap', us', e', hb2', h3', hc'⟩
      · subst e2'
        simp at hlt
      simp only [Value.slice.injEq, true_and] at e e'
      obtain ⟨rfl, rfl⟩ := e
      obtain ⟨rfl, rfl⟩ := e'
      obtain ⟨c0, r0⟩ := hc k hlt
      obtain ⟨c0', r0'⟩ := hc' k hlt
      have hm : xss.getD k [] ∈ xss := by simp [List.getD, hlt]
      have hrl := HR.out _ hm
      obtain ⟨x1, y1, e1⟩ := r0.slice
      obtain ⟨x2, y2, e3⟩ := r0'.slice
      rw [e1] at c0 r0
      rw [e3] at c0' r0'
      have q1 : wr.cell? ⟨b, o + k, none⟩ = some (.slice x1 (xss.getD k []).length y1) := (HG.out.cell (p := ⟨b, o + k, none⟩) hb2).trans c0
      have q2 : wr.cell? ⟨b', o' + k, none⟩ = some (.slice x2 (xss.getD k []).length y2) := (HG.out.cell (p := ⟨b', o' + k, none⟩) hb2').trans c0'
      have R1 : Hid (Row wr (.slice x1 (xss.getD k []).length y1) (xss.getD k [])) := r0.old HG.out
      have R2 : Hid (Row wr (.slice x2 (xss.getD k []).length y2) (xss.getD k [])) := r0'.old HG.out
      have hbr : b < wr.heap.size := Nat.lt_of_lt_of_le hb2 HG.out.size
      have hbr' : b' < wr.heap.size := Nat.lt_of_lt_of_le hb2' HG.out.size
      generalize xss.getD k [] = xs at *
      have HAS : Hid (∀ W' : World, Old wr W' → (W'.cell? ⟨b, o + k, none⟩ = some (.slice x1 xs.length y1) ∧ W'.cell? ⟨b', o' + k, none⟩ = some (.slice x2 xs.length y2))) := fun W' g => ⟨(g.cell (p := ⟨b, o + k, none⟩) hbr).trans q1, (g.cell (p := ⟨b', o' + k, none⟩) hbr').trans q2⟩
      clear hc hc' c0 c0' r0 r0' e1 e3 hm
      go_wp2_with fail
      go_region_held3 (fun W' => W'.cell? ⟨b, o + k, none⟩ = some (.slice x1 xs.length y1) ∧ W'.cell? ⟨b', o' + k, none⟩ = some (.slice x2 xs.length y2)) (first | with_reducible exact HAS.out _ GE.out | with_reducible exact HAS.out _ (Below.drew (Old.refl wr)) | with_reducible exact HAS.out _ (Old.refl wr)) (first
        | (go_at_call 37; refine (eqInts_yes xs _ _ _ (R1.out.old (Below.drew (Old.refl wr))) (R2.out.old (Below.drew (Old.refl wr))) (by omega)).mono ?_; rintro e w2 ⟨rfl, ge⟩; have GE : Hid (Old wr w2) := Old.trans (Below.drew (Old.refl wr)) ge; clear ge)
        | fail)
      have HG2 : Hid (Old w w2) := Old.trans HG.out GE.out
      go_wp2_with fail
      exact ⟨⟨k + 1, by omega, by go_num, HG2⟩, by simp [intOf]; omega⟩
    · have d1 : decide ((k : Int) < (xss.length : Int)) = false := by simp; omega
      go_wp2_with fail
      go_ret
      exact ⟨rfl, HG.out⟩
theorem OwS.slice {xss : List (List Int)} {W : World} {lo hi : Nat} {v : Value} (h : OwS xss W lo hi v) : ∃ a c, v = .slice a xss.length c := h.rowS.slice
theorem OwS.put {xss : List (List Int)} {W : World} {lo hi k j : Nat} {v x : Value} (h : OwS xss W lo hi v) (hk : k < lo ∨ hi ≤ k) : OwS xss (W.setCell ⟨k, j, none⟩ x) lo hi v :=
  far_OwS xss W _ lo hi v h (fun b h1 h2 => heap_setCell_other _ _ _ _ (by show b ≠ k; omega)) (by simp)
theorem OwS.low {xss : List (List Int)} {W : World} {lo lo' hi : Nat} {v : Value} (h : OwS xss W lo hi v) (hl : lo' ≤ lo) : OwS xss W lo' hi v := by
  obtain ⟨hh, h | ⟨p, cap, vs, e, hcap, hlo, hhi, ho, hvl, hj, hd⟩⟩ := h
  · exact ⟨hh, Or.inl h⟩
  · refine ⟨hh, Or.inr ⟨p, cap, vs, e, hcap, by omega, hhi, ⟨ho.1, ?_⟩, hvl, fun j hjl => ?_, hd⟩⟩
    · rcases ho.2 with hn | ⟨p', cap', cur, e', hb', rest⟩
      · exact .inl hn
      · exact .inr ⟨p', cap', cur, e', by omega, rest⟩
    · obtain ⟨a, c, e1, hc, o, hb⟩ := hj j hjl
      exact ⟨a, c, e1, hc, ⟨Own.low o.1 hl, o.2.1, o.2.2⟩, hb⟩
end Go.Proofs.YtinldhoimnbkhaaDoor
/- Proved: things made of blocks of memory (rows, structs of them, slices of these): what stays where other blocks are written; no function of the program. -/
namespace Go.Proofs.YtinldhoimnbkhaaDoor
open Go.ChangeShapes Go.WideShapes Go.ChangeAt Go.RowKit
set_option linter.unusedVariables false
set_option linter.unusedSimpArgs false
/-- what is said of cells and of the blocks that they own -/
abbrev Thing := World → (Nat → Prop) → List Value → Prop
structure GoodT (E : Thing) : Prop where
  far : ∀ {W W' : World} {B : Nat → Prop} {cs : List Value}, E W B cs → (∀ b, B b → W'.heap[b]? = W.heap[b]?) → E W' B cs
  lt : ∀ {W : World} {B : Nat → Prop} {cs : List Value}, E W B cs → ∀ b, B b → b < W.heap.size
/-- a row of numbers -/
def TI (xs : List Int) : Thing := fun W B cs => ∃ a c, cs = [.slice a xs.length c] ∧ Own W 0 (.slice a xs.length c) xs ∧ xs.length ≤ c ∧ ∀ b, B b ↔ (Value.slice a xs.length c).ownBlock = some b
/-- the cells of element j -/
def cellsJ (n : Nat) (vs : List Value) (j : Nat) : List Value := (vs.drop (j * n)).take n
/-- a slice's block, of whose m elements the first k are things -/
structure TSc (T : TypeId) (n m k : Nat) (Es : Nat → Thing) (W : World) (p cap : Nat) (vs : List Value) (Bs : Nat → Nat → Prop) : Prop where
  row : W.ownsRow 0 T n (.slice (some ⟨p, 0, none⟩) m cap) m vs
  el : ∀ j, j < k → Es j W (Bs j) (cellsJ n vs j)
  np : ∀ j, j < k → ¬ Bs j p
  dis : ∀ i j, i < k → j < k → i ≠ j → ∀ b, Bs i b → Bs j b → False
/-- a slice of m things, each of n cells -/
def TS (T : TypeId) (n m : Nat) (Es : Nat → Thing) : Thing := fun W B cs =>
  (m = 0 ∧ cs = [.slice none 0 0] ∧ ∀ b, ¬ B b) ∨ ∃ p cap vs Bs, cs = [.slice (some ⟨p, 0, none⟩) m cap] ∧ TSc T n m m Es W p cap vs Bs ∧ ∀ b, B b ↔ b = p ∨ ∃ j, j < m ∧ Bs j b
/-- a thing in blocks from lo up to hi -/
def Ows (E : Thing) (W : World) (lo hi : Nat) (cs : List Value) : Prop := hi ≤ W.heap.size ∧ ∃ B, E W B cs ∧ ∀ b, B b → lo ≤ b ∧ b < hi
theorem ownsRow_far {W W' : World} {base p n m cap : Nat} {T : TypeId} {vs : List Value} (h : W.ownsRow base T n (.slice (some ⟨p, 0, none⟩) m cap) m vs) (hf : W'.heap[p]? = W.heap[p]?) : W'.ownsRow base T n (.slice (some ⟨p, 0, none⟩) m cap) m vs := by
  refine ⟨h.1, ?_⟩
  rcases h.2 with ⟨hn, _⟩ | ⟨p', cap', cur, e, hb, hgg, rest⟩
  · cases hn
  · simp only [Value.slice.injEq, Option.some.injEq, Addr.mk.injEq, true_and, and_true] at e
    obtain ⟨rfl, rfl⟩ := e
    exact .inr ⟨p, cap, cur, rfl, hb, hf.trans hgg, rest⟩
theorem ownsRow_lt {W : World} {base p n m cap : Nat} {T : TypeId} {vs : List Value} (h : W.ownsRow base T n (.slice (some ⟨p, 0, none⟩) m cap) m vs) : p < W.heap.size := (h.lt p rfl).2
theorem own_farB {W W' : World} {base : Nat} {v : Value} {xs : List Int} (h : Own W base v xs) (hf : ∀ b, v.ownBlock = some b → W'.heap[b]? = W.heap[b]?) : Own W' base v xs := by
  refine ⟨h.1, ?_⟩
  rcases h.2 with hn | ⟨p, cap, cur, rfl, hb, hgg, rest⟩
  · exact .inl hn
  · exact .inr ⟨p, cap, cur, rfl, hb, (hf p rfl).trans hgg, rest⟩
theorem good_TI (xs : List Int) : GoodT (TI xs) := by
  constructor
  · rintro W W' B cs ⟨a, c, e, o, f, hb⟩ hf
    exact ⟨a, c, e, own_farB o (fun b h => hf b ((hb b).2 h)), f, hb⟩
  · rintro W B cs ⟨a, c, e, o, f, hb⟩ b h
    exact (o.lt b ((hb b).1 h)).2
theorem TSc.far {T : TypeId} {n m k : Nat} {Es : Nat → Thing} {W W' : World} {p cap : Nat} {vs : List Value} {Bs : Nat → Nat → Prop} (g : ∀ j, GoodT (Es j)) (h : TSc T n m k Es W p cap vs Bs) (hp : W'.heap[p]? = W.heap[p]?) (hf : ∀ j b, j < k → Bs j b → W'.heap[b]? = W.heap[b]?) : TSc T n m k Es W' p cap vs Bs :=
  ⟨ownsRow_far h.row hp, fun j hj => (g j).far (h.el j hj) (fun b hb => hf j b hj hb), h.np, h.dis⟩
theorem TSc.lt {T : TypeId} {n m k : Nat} {Es : Nat → Thing} {W : World} {p cap : Nat} {vs : List Value} {Bs : Nat → Nat → Prop} (g : ∀ j, GoodT (Es j)) (h : TSc T n m k Es W p cap vs Bs) (j b : Nat) (hj : j < k) (hb : Bs j b) : b < W.heap.size := (g j).lt (h.el j hj) b hb
theorem TSc.old {T : TypeId} {n m k : Nat} {Es : Nat → Thing} {W W' : World} {p cap : Nat} {vs : List Value} {Bs : Nat → Nat → Prop} (g : ∀ j, GoodT (Es j)) (h : TSc T n m k Es W p cap vs Bs) (q : Old W W') : TSc T n m k Es W' p cap vs Bs :=
  h.far g (q.block p (ownsRow_lt h.row)) (fun j b hj hb => q.block b (h.lt g j b hj hb))
theorem good_TS (T : TypeId) (n m : Nat) {Es : Nat → Thing} (g : ∀ j, GoodT (Es j)) : GoodT (TS T n m Es) := by
  constructor
  · rintro W W' B cs (h | ⟨p, cap, vs, Bs, e, h, hb⟩) hf
    · exact .inl h
    · exact .inr ⟨p, cap, vs, Bs, e, h.far g (hf p ((hb p).2 (.inl rfl))) (fun j b hj hB => hf b ((hb b).2 (.inr ⟨j, hj, hB⟩))), hb⟩
  · rintro W B cs (h | ⟨p, cap, vs, Bs, e, h, hb⟩) b hB
    · exact absurd hB (h.2.2 b)
    · rcases (hb b).1 hB with rfl | ⟨j, hj, hB⟩
      · exact ownsRow_lt h.row
      · exact h.lt g j b hj hB
theorem far_Ows {E : Thing} (g : GoodT E) : Far (Ows E) := fun W W' lo hi cs h hf hs => by
  obtain ⟨hh, B, hE, hb⟩ := h
  exact ⟨by omega, B, g.far hE (fun b hB => hf b (hb b hB).1 (hb b hB).2), hb⟩
theorem Ows.low {E : Thing} {W : World} {lo lo' hi hi' : Nat} {cs : List Value} (h : Ows E W lo hi cs) (hl : lo' ≤ lo) (hh : hi ≤ hi') (hs : hi' ≤ W.heap.size) : Ows E W lo' hi' cs := by
  obtain ⟨_, B, hE, hb⟩ := h
  exact ⟨hs, B, hE, fun b hB => by have := hb b hB; omega⟩
theorem Ows.old {E : Thing} (g : GoodT E) {W W' : World} {lo hi : Nat} {cs : List Value} (h : Ows E W lo hi cs) (q : Old W W') : Ows E W' lo hi cs := (far_Ows g).old h q h.1
theorem TS.slice {T : TypeId} {n m : Nat} {Es : Nat → Thing} {W : World} {B : Nat → Prop} {v : Value} (h : TS T n m Es W B [v]) : ∃ a c, v = .slice a m c := by
  rcases h with ⟨h0, h1, _⟩ | ⟨p, cap, vs, Bs, e, _⟩
  · simp at h1
    exact ⟨none, 0, by rw [h1, h0]⟩
  · simp at e
    exact ⟨_, _, e⟩
theorem TI.slice {xs : List Int} {W : World} {B : Nat → Prop} {v : Value} (h : TI xs W B [v]) : ∃ a c, v = .slice a xs.length c := by
  obtain ⟨a, c, e, _⟩ := h
  simp at e
  exact ⟨a, c, e⟩
theorem TI.row {xs : List Int} {W : World} {B : Nat → Prop} {v : Value} (h : TI xs W B [v]) : Row W v xs := by
  obtain ⟨a, c, e, o, _⟩ := h
  simp at e
  rw [e]
  exact Own.row o
theorem cellsJ_len {n m : Nat} {vs : List Value} (h : vs.length = m * n) (j : Nat) (hj : j < m) : (cellsJ n vs j).length = n := by
  unfold cellsJ
  rw [List.length_take, List.length_drop, h]
  have : (j + 1) * n ≤ m * n := Nat.mul_le_mul_right n hj
  rw [Nat.add_mul] at this
  omega
theorem cellsJ_get (n : Nat) (vs : List Value) (j i : Nat) (hi : i < n) : (cellsJ n vs j)[i]? = vs[j * n + i]? := by
  unfold cellsJ
  rw [List.getElem?_take, if_pos hi, List.getElem?_drop]
theorem cellsJ_set (n : Nat) (vs : List Value) (j i q : Nat) (x : Value) (hi : i < n) : cellsJ n (vs.set (j * n + i) x) q = if q = j then (cellsJ n vs j).set i x else cellsJ n vs q := by
  apply List.ext_getElem?
  intro r
  rcases Nat.lt_or_ge r n with hr | hr
  · rw [cellsJ_get n _ q r hr, List.getElem?_set]
    by_cases hq : q = j
    · subst hq
      rw [if_pos rfl, List.getElem?_set, cellsJ_get n vs q r hr]
      by_cases hri : i = r
      · subst hri
        rw [if_pos rfl, if_pos rfl]
        by_cases hlen : q * n + i < vs.length
        · rw [if_pos hlen, if_pos]
          unfold cellsJ
          rw [List.length_take, List.length_drop]
          omega
        · rw [if_neg hlen, if_neg]
          unfold cellsJ
          rw [List.length_take, List.length_drop]
          omega
      · rw [if_neg (by omega), if_neg hri]
    · rw [if_neg hq, if_neg, cellsJ_get n vs q r hr]
      intro e
      apply hq
      have h1 : (j * n + i) / n = j := by rw [Nat.mul_comm, Nat.mul_add_div (by omega), Nat.div_eq_of_lt hi]; omega
      have h2 : (q * n + r) / n = q := by rw [Nat.mul_comm, Nat.mul_add_div (by omega), Nat.div_eq_of_lt hr]; omega
      rw [← h1, ← h2, e]
  · have l1 : ∀ (us : List Value) (z : Nat), (cellsJ n us z)[r]? = none := fun us z => by
      apply List.getElem?_eq_none
      unfold cellsJ
      rw [List.length_take]
      omega
    rw [l1]
    split
    · rw [List.getElem?_set]
      rw [if_neg (by omega)]
      exact (l1 vs j).symm
    · exact (l1 vs q).symm
theorem TSc.cell {T : TypeId} {n m k : Nat} {Es : Nat → Thing} {W : World} {p cap : Nat} {vs : List Value} {Bs : Nat → Nat → Prop} (h : TSc T n m k Es W p cap vs Bs) (j i : Nat) (hj : j < m) (hi : i < n) : W.cell? ⟨p, j * n + i, none⟩ = (cellsJ n vs j)[i]? := by
  rw [World.ownsRow.cellAt h.row (j * n + i) (by
    have : (j + 1) * n ≤ m * n := Nat.mul_le_mul_right n hj
    rw [Nat.add_mul] at this
    omega), cellsJ_get n vs j i hi]
theorem TSc.frozen {T : TypeId} {n m k : Nat} {Es : Nat → Thing} {W : World} {p cap : Nat} {vs : List Value} {Bs : Nat → Nat → Prop} (h : TSc T n m k Es W p cap vs Bs) (j : Nat) : W.frozen? ⟨p, j, none⟩ = false := World.ownsRow.frozenAt h.row j
/-- a cell of the slice's own block has been written -/
theorem TSc.put {T : TypeId} {n m k : Nat} {Es : Nat → Thing} {W : World} {p cap : Nat} {vs : List Value} {Bs : Nat → Nat → Prop} (g : ∀ j, GoodT (Es j)) (h : TSc T n m k Es W p cap vs Bs) (j i : Nat) (hj : j < k) (hi : i < n) (x : Value) {E' : Thing}
    (he : ∀ W', (∀ b, b ≠ p → W'.heap[b]? = W.heap[b]?) → E' W' (Bs j) ((cellsJ n vs j).set i x)) : TSc T n m k (fun q => if q = j then E' else Es q) (W.setCell ⟨p, j * n + i, none⟩ x) p cap (vs.set (j * n + i) x) Bs := by
  have hot : ∀ b, b ≠ p → (W.setCell ⟨p, j * n + i, none⟩ x).heap[b]? = W.heap[b]? := fun b hb => heap_setCell_other _ _ _ _ hb
  refine ⟨(World.ownsRow.stored h.row _ _).1, fun q hq => ?_, h.np, h.dis⟩
  rw [cellsJ_set n vs j i q x hi]
  by_cases hqj : q = j
  · subst hqj
    rw [if_pos rfl, if_pos rfl]
    exact he _ hot
  · rw [if_neg hqj, if_neg hqj]
    exact (g q).far (h.el q hq) (fun b hb => hot b (fun e => h.np q hq (by rw [← e]; exact hb)))
theorem TSc.start {T : TypeId} {n m : Nat} {Es : Nat → Thing} {W : World} {p cap : Nat} {vs : List Value} (h : W.ownsRow 0 T n (.slice (some ⟨p, 0, none⟩) m cap) m vs) : TSc T n m 0 Es W p cap vs (fun _ _ => False) :=
  ⟨h, fun j hj => by omega, fun j hj => by omega, fun i j hi => by omega⟩
/-- a cell ahead is written (element k is not yet said to be a thing) -/
theorem TSc.fill {T : TypeId} {n m k : Nat} {Es : Nat → Thing} {W : World} {p cap : Nat} {vs : List Value} {Bs : Nat → Nat → Prop} (g : ∀ j, GoodT (Es j)) (h : TSc T n m k Es W p cap vs Bs) (i : Nat) (hi : i < n) (x : Value) : TSc T n m k Es (W.setCell ⟨p, k * n + i, none⟩ x) p cap (vs.set (k * n + i) x) Bs := by
  have hot : ∀ b, b ≠ p → (W.setCell ⟨p, k * n + i, none⟩ x).heap[b]? = W.heap[b]? := fun b hb => heap_setCell_other _ _ _ _ hb
  refine ⟨(World.ownsRow.stored h.row _ _).1, fun q hq => ?_, h.np, h.dis⟩
  rw [cellsJ_set n vs k i q x hi, if_neg (by omega)]
  exact (g q).far (h.el q hq) (fun b hb => hot b (fun e => h.np q hq (by rw [← e]; exact hb)))
/-- one more element is a thing -/
theorem TSc.more {T : TypeId} {n m k : Nat} {Es : Nat → Thing} {W : World} {p cap : Nat} {vs : List Value} {Bs : Nat → Nat → Prop} {B : Nat → Prop} (h : TSc T n m k Es W p cap vs Bs) (he : Es k W B (cellsJ n vs k)) (hp : ¬ B p) (hd : ∀ j, j < k → ∀ b, Bs j b → B b → False) : TSc T n m (k + 1) Es W p cap vs (fun q => if q = k then B else Bs q) := by
  refine ⟨h.row, fun j hj => ?_, fun j hj => ?_, fun i j hi hj hij b => ?_⟩
  · by_cases e : j = k
    · subst e
      simp only [if_true]
      exact he
    · simp only [e, if_false]
      exact h.el j (by omega)
  · by_cases e : j = k
    · simp only [e, if_true]
      exact hp
    · simp only [e, if_false]
      exact h.np j (by omega)
  · by_cases e : i = k
    · have e2 : ¬ j = k := by omega
      simp only [e, e2, if_true, if_false]
      exact fun h1 h2 => hd j (by omega) b h2 h1
    · by_cases e2 : j = k
      · simp only [e, e2, if_true, if_false]
        exact fun h1 h2 => hd i (by omega) b h1 h2
      · simp only [e, e2, if_false]
        exact h.dis i j (by omega) (by omega) hij b
theorem TSc.done {T : TypeId} {n m : Nat} {Es : Nat → Thing} {W : World} {p cap lo : Nat} {vs : List Value} {Bs : Nat → Nat → Prop} (g : ∀ j, GoodT (Es j)) (h : TSc T n m m Es W p cap vs Bs) (hp : lo ≤ p) (hb : ∀ j b, j < m → Bs j b → lo ≤ b) : Ows (TS T n m Es) W lo W.heap.size [.slice (some ⟨p, 0, none⟩) m cap] := by
  refine ⟨Nat.le_refl _, fun b => b = p ∨ ∃ j, j < m ∧ Bs j b, .inr ⟨p, cap, vs, Bs, rfl, h, fun b => Iff.rfl⟩, fun b hB => ?_⟩
  rcases hB with rfl | ⟨j, hj, hB⟩
  · exact ⟨hp, ownsRow_lt h.row⟩
  · exact ⟨hb j b hj hB, h.lt g j b hj hB⟩
theorem TS.ext {T : TypeId} {n m : Nat} {Es Es' : Nat → Thing} {W : World} {B : Nat → Prop} {cs : List Value} (he : ∀ j, j < m → Es j = Es' j) (h : TS T n m Es W B cs) : TS T n m Es' W B cs := by
  rcases h with h | ⟨p, cap, vs, Bs, e, h, hb⟩
  · exact .inl h
  · exact .inr ⟨p, cap, vs, Bs, e, ⟨h.row, fun j hj => by rw [← he j hj]; exact h.el j hj, h.np, h.dis⟩, hb⟩
theorem TSc.ext {T : TypeId} {n m k : Nat} {Es Es' : Nat → Thing} {W : World} {p cap : Nat} {vs : List Value} {Bs : Nat → Nat → Prop} (he : ∀ j, j < k → Es j = Es' j) (h : TSc T n m k Es W p cap vs Bs) : TSc T n m k Es' W p cap vs Bs :=
  ⟨h.row, fun j hj => by rw [← he j hj]; exact h.el j hj, h.np, h.dis⟩
end Go.Proofs.YtinldhoimnbkhaaDoor
/- Proved: rows of rows as a law carries them: marks. -/
namespace Go.Proofs.YtinldhoimnbkhaaDoor
open Go.ChangeShapes Go.WideShapes Go.ChangeAt Go.RowKit
set_option linter.unusedVariables false
set_option linter.unusedSimpArgs false
/-- how many numbers lie in the first j rows -/
def offL : List (List Int) → Nat → Nat
  | [], _ => 0
  | _ :: _, 0 => 0
  | r :: rs, j + 1 => r.length + offL rs j
/-- rows whose numbers are marks, from k on -/
def OwM (k : Int) (xss : List (List Int)) (W : World) (lo hi : Nat) (v : Value) : Prop :=
  ∃ yss : List (List Int), yss.length = xss.length ∧ (∀ j, j < xss.length → yss.getD j [] = marks (k + offL xss j) (xss.getD j []).length) ∧ OwS yss W lo hi v
theorem OwM.slice {k : Int} {xss : List (List Int)} {W : World} {lo hi : Nat} {v : Value} (h : OwM k xss W lo hi v) : ∃ a c, v = .slice a xss.length c := by
  obtain ⟨yss, h1, h2, h3⟩ := h
  obtain ⟨a, c, e⟩ := h3.slice
  exact ⟨a, c, by rw [e, h1]⟩
end Go.Proofs.YtinldhoimnbkhaaDoor
/- Proved: a slice of things with one more appended; a row of one's own as a thing; no function of the program. -/
namespace Go.Proofs.YtinldhoimnbkhaaDoor
open Go.ChangeShapes Go.WideShapes Go.ChangeAt Go.RowKit
set_option linter.unusedVariables false
set_option linter.unusedSimpArgs false
theorem TI.of {W : World} {lo : Nat} {v : Value} {xs : List Int} (o : Own W lo v xs) : ∃ B, TI xs W B [v] ∧ ∀ b, B b → lo ≤ b := by
  obtain ⟨a, c, rfl⟩ := (Own.row o).slice
  refine ⟨fun b => (Value.slice a xs.length c).ownBlock = some b, ⟨a, c, rfl, Own.low o (Nat.zero_le _), ?_, fun b => Iff.rfl⟩, fun b hb => (o.lt b hb).1⟩
  rcases o.2 with ⟨e, h0⟩ | ⟨p, cap, cur, e, _, _, h, _⟩
  · simp at e
    omega
  · simp only [Value.slice.injEq] at e
    omega
theorem TI.own {W : World} {lo : Nat} {B : Nat → Prop} {v : Value} {xs : List Int} (h : TI xs W B [v]) (hb : ∀ b, B b → lo ≤ b) : Own W lo v xs := by
  obtain ⟨a, c, e, o, f, hB⟩ := h
  simp at e
  subst e
  refine ⟨o.1, ?_⟩
  rcases o.2 with hn | ⟨p, cap, cur, e, _, rest⟩
  · exact .inl hn
  · refine .inr ⟨p, cap, cur, e, hb p ((hB p).2 (by rw [e]; rfl)), rest⟩
theorem TI.blocks {W : World} {B : Nat → Prop} {v : Value} {xs : List Int} (h : TI xs W B [v]) : ∀ b, B b ↔ v.ownBlock = some b := by
  obtain ⟨a, c, e, o, f, hB⟩ := h
  simp at e
  subst e
  exact hB
theorem Ows.nil {T : TypeId} {n : Nat} {Es : Nat → Thing} {W : World} {lo hi : Nat} (hh : hi ≤ W.heap.size) : Ows (TS T n 0 Es) W lo hi [.slice none 0 0] :=
  ⟨hh, fun _ => False, .inl ⟨rfl, rfl, fun b hb => hb⟩, fun b hb => hb.elim⟩
end Go.Proofs.YtinldhoimnbkhaaDoor
