/- Proved: several texts in one: what each proves is said ahead of it. -/
import Derived.Test.YtanijpekdnkicaaGreatDoorWq02
import Derived.Test.YtanijpekdnkicaaGreatDoorWq10
import Derived.Deep.RegionHeld3
import Derived.Test.YtanijpekdnkicaaGreatDoorWq15
/- Proved: rows of rows as a law carries them: sizes, copies, comparisons. -/
namespace Go.Proofs.YtanijpekdnkicaaGreatDoor
open Go.ChangeShapes Go.WideShapes Go.ChangeAt Go.RowKit
set_option linter.unusedVariables false
set_option linter.unusedSimpArgs false
def RowS (w : World) (v : Value) (xss : List (List Int)) : Prop :=
  (∃ a cap, v = .slice a 0 cap ∧ xss = []) ∨ ∃ b o cap, ∃ us : Nat → Value, v = .slice (some ⟨b, o, none⟩) xss.length cap ∧ b < w.heap.size ∧ 0 < xss.length ∧ ∀ j, j < xss.length → w.cell? ⟨b, o + j, none⟩ = some (us j) ∧ Row w (us j) (xss.getD j [])
theorem RowS.old {w w' : World} {v : Value} {xss : List (List Int)} (h : RowS w v xss) (g : Old w w') : RowS w' v xss := by
  rcases h with h1 | ⟨b, o, cap, us, e, hb, h0, hc⟩
  · exact Or.inl h1
  · exact Or.inr ⟨b, o, cap, us, e, Nat.lt_of_lt_of_le hb g.size, h0, fun j hj => ⟨(g.cell (p := ⟨b, o + j, none⟩) hb).trans (hc j hj).1, (hc j hj).2.old g⟩⟩
theorem RowS.slice {w : World} {v : Value} {xss : List (List Int)} (h : RowS w v xss) : ∃ a cap, v = .slice a xss.length cap := by
  rcases h with ⟨a, cap, e, e2⟩ | ⟨b, o, cap, us, e, _⟩
  · exact ⟨a, cap, by rw [e, e2]; rfl⟩
  · exact ⟨_, cap, e⟩
def leftL : Int → List (List Int) → Int
  | left, [] => left
  | left, r :: rs => if leftN left r.length < 0 then -1 else leftL (leftN left r.length) rs
def leftSS (left : Int) (xss : List (List Int)) : Int := if left < (xss.length : Int) then -1 else leftL (left - xss.length) xss
theorem leftL_ok : ∀ (xss : List (List Int)) (left : Int), 0 ≤ left → ¬ leftL left xss < 0 → 0 ≤ leftL left xss ∧ leftL left xss ≤ left ∧ ∀ r ∈ xss, (r.length : Int) ≤ left
  | [], left, h0, h => ⟨h0, Int.le_refl _, by simp⟩
  | r :: rs, left, h0, h => by
    unfold leftL at h ⊢
    by_cases hr : leftN left r.length < 0
    · rw [if_pos hr] at h
      omega
    · rw [if_neg hr] at h ⊢
      obtain ⟨q1, q2, q3⟩ := leftN_ok hr h0
      obtain ⟨p1, p2, p3⟩ := leftL_ok rs _ q3 h
      refine ⟨p1, by omega, fun x hx => ?_⟩
      rcases List.mem_cons.1 hx with rfl | hx
      · exact q1
      · have := p3 x hx
        omega
theorem leftSS_ok {xss : List (List Int)} {left : Int} (h0 : 0 ≤ left) (h : ¬ leftSS left xss < 0) : 0 ≤ leftSS left xss ∧ leftSS left xss ≤ left ∧ (xss.length : Int) ≤ left ∧ ∀ r ∈ xss, (r.length : Int) ≤ left := by
  unfold leftSS at h ⊢
  by_cases hr : left < (xss.length : Int)
  · rw [if_pos hr] at h
    omega
  · rw [if_neg hr] at h ⊢
    obtain ⟨p1, p2, p3⟩ := leftL_ok xss _ (by omega) h
    exact ⟨p1, by omega, by omega, fun r hr => by have := p3 r hr; omega⟩
theorem drop_cons (xss : List (List Int)) (k : Nat) (h : k < xss.length) : xss.drop k = xss.getD k [] :: xss.drop (k + 1) := by
  rw [List.drop_eq_getElem_cons h]
  simp [List.getD, h]
theorem ret_ii {a b : Int} (h : a = b) : Ending.returned (.int .i64 a) = .returned (.int .i64 b) := by rw [h]
set_option maxRecDepth 100000 in
set_option maxHeartbeats 2000000 in
theorem szIntSS_any (xss : List (List Int)) (v : Value) (left : Int) (w : World) (hv : RowS w v xss) (hl : xss.length ≤ 9223372036854775807) (hr : ∀ r ∈ xss, r.length ≤ 9223372036854775807) (h0 : 0 ≤ left) (h1 : left ≤ 1048576) :
    Calls Tryz.prog 74 #[v, .int .i64 left] w fun e w' => e = .returned (.int .i64 (leftSS left xss)) ∧ Old w w' := by
  obtain ⟨a0, cap0, ev⟩ := hv.slice
  subst ev
  by_cases hb : left < (xss.length : Int)
  · have d : decide (left - (xss.length : Int) < 0) = true := by simp; omega
    have HB : Hid (leftSS left xss = -1) := by show _ = _; unfold leftSS; rw [if_pos hb]
    clear hv hr hb
    go_enter Tryz.func74, Tryz.ntmps74
    go_wp2_with fail
    go_ret
    exact ⟨ret_ii HB.out.symm, Old.refl _⟩
  · have d : decide (left - (xss.length : Int) < 0) = false := by simp; omega
    have HB : Hid (leftL (left - xss.length) (xss.drop 0) = leftSS left xss) := by show _ = _; unfold leftSS; rw [if_neg hb]; rfl
    have hl2 : 0 ≤ left - (xss.length : Int) ∧ left - (xss.length : Int) ≤ 1048576 := by omega
    generalize leftSS left xss = R at *
    have HR : Hid (∀ r ∈ xss, r.length ≤ 9223372036854775807) := hr
    have HV : Hid (RowS w (.slice a0 xss.length cap0) xss) := hv
    clear hv hr
    go_enter Tryz.func74, Tryz.ntmps74
    go_wp2_with fail
    go_loopw [5, 1] (fun i l W => ∃ (k : Nat) (z : Int), k ≤ xss.length ∧ i = .int .i64 k ∧ l = .int .i64 z ∧ 0 ≤ z ∧ z ≤ 1048576 ∧ Hid (leftL z (xss.drop k) = R) ∧ W = w) (fun i _ _ => xss.length - (intOf i).toNat)
    case atStart => exact ⟨0, left - xss.length, by omega, rfl, rfl, by omega, by omega, HB, rfl⟩
    case round =>
      obtain ⟨k, z, hk, rfl, rfl, z0, z1, H1, hW⟩ := hrel
      obtain rfl : w = wr := hW.symm
      clear HB d hW
      by_cases hlt : k < xss.length
      · have d1 : decide ((k : Int) < (xss.length : Int)) = true := by simp; omega
        rcases HV.out with ⟨a, cap, e, e2⟩ | ⟨b, o, cap, us, e, hb2, h3, hc⟩
        · subst e2
          simp at hlt
        simp only [Value.slice.injEq, true_and] at e
        obtain ⟨rfl, rfl⟩ := e
        obtain ⟨c1, r1⟩ := hc k hlt
        obtain ⟨a1, cap1, e1⟩ := r1.slice
        rw [e1] at c1
        have hm : xss.getD k [] ∈ xss := by simp [List.getD, hlt]
        have hrl := HR.out _ hm
        have H2 : Hid ((if leftN z (xss.getD k []).length < 0 then -1 else leftL (leftN z (xss.getD k []).length) (xss.drop (k + 1))) = R) := by
          have := H1.out
          rw [drop_cons xss k hlt] at this
          unfold leftL at this
          exact this
        have cz := fun W => szInts_any a1 (xss.getD k []).length cap1 z W hrl z0 z1
        clear hc r1 e1 H1 hm
        generalize (xss.getD k []).length = m at *
        by_cases hz : leftN z m < 0
        · have H3 : Hid (-1 = R) := by have := H2.out; rw [if_pos hz] at this; exact this
          have hz2 : z < (m : Int) := by
            unfold leftN at hz
            split at hz
            · assumption
            · omega
          rw [if_pos hz2] at cz
          clear H2 hz hz2
          go_wp2_with fail
          refine (cz _).mono ?_
          rintro e w1 ⟨rfl, hw1⟩
          obtain rfl : w = w1 := hw1.symm
          go_wp2_with fail
          go_ret
          exact ⟨ret_ii H3.out, Old.refl _⟩
        · have H3 : Hid (leftL (leftN z m) (xss.drop (k + 1)) = R) := by have := H2.out; rw [if_neg hz] at this; exact this
          obtain ⟨q1, q2, q3⟩ := leftN_ok hz z0
          rw [q2] at H3 q3
          rw [if_neg (by omega)] at cz
          have d2 : decide (z - (m : Int) < 0) = false := by simp; omega
          clear H2 hz q2
          go_wp2_with fail
          refine (cz _).mono ?_
          rintro e w1 ⟨rfl, hw1⟩
          obtain rfl : w = w1 := hw1.symm
          go_wp2_with fail
          exact ⟨⟨k + 1, z - m, by omega, by go_num, rfl, by omega, by omega, H3, by first | rfl | trivial⟩, by simp [intOf]; omega⟩
      · have d1 : decide ((k : Int) < (xss.length : Int)) = false := by simp; omega
        have H2 : Hid (z = R) := by
          have := H1.out
          rw [List.drop_eq_nil_of_le (by omega)] at this
          unfold leftL at this
          exact this
        clear H1
        go_wp2_with fail
        go_ret
        exact ⟨ret_ii H2.out, Old.refl _⟩
theorem Tryz.infoInts : (Tryz.prog.info? 22).map (fun i => (i.zero, i.size, i.bytes)) = some (some (.slice none 0 0), 1, 24) := by kernel_rfl
def OwS (xss : List (List Int)) (W : World) (lo hi : Nat) (v : Value) : Prop :=
  hi ≤ W.heap.size ∧ ((v = .slice none 0 0 ∧ xss = []) ∨ ∃ (p cap : Nat) (vs : List Value), v = .slice (some ⟨p, 0, none⟩) xss.length cap ∧ xss.length ≤ cap ∧ lo ≤ p ∧ p < hi ∧ W.ownsRow lo 22 1 (.slice (some ⟨p, 0, none⟩) xss.length cap) xss.length vs ∧ vs.length = xss.length
    ∧ (∀ j, j < xss.length → ∃ a c, vs[j]? = some (.slice a (xss.getD j []).length c) ∧ (xss.getD j []).length ≤ c ∧ OwI (xss.getD j []) W lo hi (.slice a (xss.getD j []).length c) ∧ (∀ b, (Value.slice a (xss.getD j []).length c).ownBlock = some b → b ≠ p))
    ∧ (∀ (i j : Nat) (x y : Value) (b : Nat), i < j → vs[i]? = some x → vs[j]? = some y → x.ownBlock = some b → y.ownBlock = some b → False))
set_option maxRecDepth 100000 in
set_option maxHeartbeats 2000000 in
theorem toIntSS_any (xss : List (List Int)) (v : Value) (w : World) (hv : RowS w v xss) (hl : xss.length ≤ 1048576) (hr : ∀ r ∈ xss, r.length ≤ 1048576) :
    Calls Tryz.prog 80 #[v] w fun e w' => ∃ v', e = .returned v' ∧ Old w w' ∧ OwS xss w' w.heap.size w'.heap.size v' ∧ ∃ a c, v' = .slice a xss.length c := by
  obtain ⟨i0, hi, hz0, hz1, hz2⟩ := info_parts Tryz.infoInts
  obtain ⟨a0, cap0, ev⟩ := hv.slice
  subst ev
  have HR : Hid (∀ r ∈ xss, r.length ≤ 1048576) := hr
  have HV : Hid (RowS w (.slice a0 xss.length cap0) xss) := hv
  clear hv hr
  go_enter Tryz.func80, Tryz.ntmps80
  go_wp2_with (at_make; refine wpList_make_full _ rfl _ _ 69 rfl w.heap.size 22 i0 (.slice none 0 0) 1 Tryz.underlying69 hi hz0 hz1 .i64 .i64 _ _ xss.length rfl rfl rfl rfl (by rw [hz2]; omega) (by unfold maxLen; omega) (Nat.le_refl _) ?_; intro w1 hown hgrow)
  have hmade : (madeCells (Value.slice none 0 0).cells (xss.length * 1)).toList = List.replicate xss.length (Value.slice none 0 0) := by
    rw [Nat.mul_one]
    exact toList_madeCells_one (.slice none 0 0) xss.length
  rw [hmade] at hown
  have HO : Hid (w1.ownsRow w.heap.size 22 1 (.slice (some ⟨w.heap.size, 0, none⟩) xss.length xss.length) xss.length (List.replicate xss.length (Value.slice none 0 0))) := hown
  have HG : Hid (Old w w1) := Below.grown (Below.refl _ _) hgrow (Nat.le_refl _) (fun _ h => by cases h)
  have hs1 : w.heap.size < w1.heap.size := (hown.lt w.heap.size rfl).2
  clear hown hgrow hmade
  go_loopw [4] (fun i W => ∃ (k : Nat) (vs : List Value), k ≤ xss.length ∧ i = .int .i64 k ∧ Hid (W.ownsRow w.heap.size 22 1 (.slice (some ⟨w.heap.size, 0, none⟩) xss.length xss.length) xss.length vs) ∧ Hid (vs.length = xss.length) ∧ Hid (Old w W)
    ∧ Hid (∀ j, j < k → ∃ a c, vs[j]? = some (.slice a (xss.getD j []).length c) ∧ (xss.getD j []).length ≤ c ∧ OwI (xss.getD j []) W w.heap.size W.heap.size (.slice a (xss.getD j []).length c) ∧ (∀ b, (Value.slice a (xss.getD j []).length c).ownBlock = some b → b ≠ w.heap.size))
    ∧ Hid (∀ (i j : Nat) (x y : Value) (b : Nat), i < j → j < k → vs[i]? = some x → vs[j]? = some y → x.ownBlock = some b → y.ownBlock = some b → False)) (fun i _ => xss.length - (intOf i).toNat)
  case atStart => exact ⟨0, _, by omega, rfl, HO, by show _ = _; simp, HG, fun j hj => by omega, fun i j x y b h1 h2 => by omega⟩
  case round =>
    obtain ⟨k, vs, hk, rfl, H1, HL, HG1, H2, H3⟩ := hrel
    clear HO HG
    by_cases hlt : k < xss.length
    · have d1 : decide ((k : Int) < (xss.length : Int)) = true := by simp; omega
      rcases HV.out with ⟨a, cap, e, e2⟩ | ⟨b, o, cap, us, e, hb2, h3, hc⟩
      · subst e2
        simp at hlt
      simp only [Value.slice.injEq, true_and] at e
      obtain ⟨rfl, rfl⟩ := e
      obtain ⟨c0, r0⟩ := hc k hlt
      have hm : xss.getD k [] ∈ xss := by simp [List.getD, hlt]
      have hrl := HR.out _ hm
      obtain ⟨a1, cap1, e1⟩ := r0.slice
      rw [e1] at c0 r0
      have c1 : wr.cell? ⟨b, o + k, none⟩ = some (.slice a1 (xss.getD k []).length cap1) := (HG1.out.cell (p := ⟨b, o + k, none⟩) hb2).trans c0
      have HR1 : Hid (Row wr (.slice a1 (xss.getD k []).length cap1) (xss.getD k [])) := r0.old HG1.out
      obtain ⟨xs, hxs⟩ : ∃ xs, xss.getD k [] = xs := ⟨_, rfl⟩
      have HXS : Hid (xss.getD k [] = xs) := hxs
      rw [hxs] at c1 HR1 hrl
      clear hc c0 r0 e1 hm hxs
      go_wp2_with fail
      refine (toInts_any xs _ _ HR1.out hrl).mono ?_
      rintro e w2 ⟨rfl, g2, o2⟩
      have hsr : w.heap.size < wr.heap.size := (H1.out.lt w.heap.size rfl).2
      have H4 : Hid (w2.ownsRow w.heap.size 22 1 (.slice (some ⟨w.heap.size, 0, none⟩) xss.length xss.length) xss.length vs) := by
        refine ⟨H1.out.1, ?_⟩
        rcases H1.out.2 with hn | ⟨p, cap', cur, e, hb', hgg, rest⟩
        · exact .inl hn
        · refine .inr ⟨p, cap', cur, e, hb', ?_, rest⟩
          rw [g2.block p (Array.getElem?_eq_some_iff.1 hgg).1]
          exact hgg
      have hvl : vs.length = xss.length := HL.out
      obtain ⟨y, hy⟩ : ∃ y, vs[k]? = some y := ⟨vs[k]'(by omega), List.getElem?_eq_getElem (by omega)⟩
      have c2 : w2.cell? ⟨w.heap.size, k, none⟩ = some y := by
        rw [World.ownsRow.cellAt H4.out k (by omega)]
        exact hy
      have c3 : w2.frozen? ⟨w.heap.size, k, none⟩ = false := World.ownsRow.frozenAt H4.out k
      have H5 : Hid ((w2.setCell ⟨w.heap.size, k, none⟩ (.slice (some ⟨wr.heap.size, 0, none⟩) xs.length xs.length)).ownsRow w.heap.size 22 1 (.slice (some ⟨w.heap.size, 0, none⟩) xss.length xss.length) xss.length (vs.set k (.slice (some ⟨wr.heap.size, 0, none⟩) xs.length xs.length))) := (World.ownsRow.stored H4.out k (.slice (some ⟨wr.heap.size, 0, none⟩) xs.length xs.length)).1
      have HG2 : Hid (Old w w2) := Old.trans HG1.out g2
      have HG3 : Hid (Old w (w2.setCell ⟨w.heap.size, k, none⟩ (.slice (some ⟨wr.heap.size, 0, none⟩) xs.length xs.length))) := HG2.out.own (Nat.le_refl _) _
      have hfar : ∀ bb, w.heap.size < bb → (w2.setCell ⟨w.heap.size, k, none⟩ (.slice (some ⟨wr.heap.size, 0, none⟩) xs.length xs.length)).heap[bb]? = w2.heap[bb]? := fun bb hbb => heap_setCell_other _ _ _ _ (by show bb ≠ w.heap.size; omega)
      have hsz : (w2.setCell ⟨w.heap.size, k, none⟩ (.slice (some ⟨wr.heap.size, 0, none⟩) xs.length xs.length)).heap.size = w2.heap.size := by simp
      have hown3 : Own (w2.setCell ⟨w.heap.size, k, none⟩ (.slice (some ⟨wr.heap.size, 0, none⟩) xs.length xs.length)) w.heap.size (.slice (some ⟨wr.heap.size, 0, none⟩) xs.length xs.length) xs := Own.low (ownsRow_setCell_other o2 (by simp [Value.ownBlock]; omega) _) (by omega)
      have H6 : Hid (∀ j, j < k + 1 → ∃ a c, (vs.set k (.slice (some ⟨wr.heap.size, 0, none⟩) xs.length xs.length))[j]? = some (.slice a (xss.getD j []).length c) ∧ (xss.getD j []).length ≤ c ∧ OwI (xss.getD j []) (w2.setCell ⟨w.heap.size, k, none⟩ (.slice (some ⟨wr.heap.size, 0, none⟩) xs.length xs.length)) w.heap.size (w2.setCell ⟨w.heap.size, k, none⟩ (.slice (some ⟨wr.heap.size, 0, none⟩) xs.length xs.length)).heap.size (.slice a (xss.getD j []).length c) ∧ (∀ b, (Value.slice a (xss.getD j []).length c).ownBlock = some b → b ≠ w.heap.size)) := fun j hj => by
        rcases Nat.lt_or_ge j k with hjk | hjk
        · obtain ⟨a, c, h1, h2, h3, h4⟩ := H2.out j hjk
          refine ⟨a, c, ?_, h2, ?_, h4⟩
          · rw [List.getElem?_set_ne (by omega)]
            exact h1
          · have h5 : Own w2 w.heap.size (.slice a (xss.getD j []).length c) (xss.getD j []) := h3.1.old g2
            refine ⟨?_, Nat.le_refl _, fun b hb => ?_⟩
            · exact ownsRow_setCell_other h5 (fun e => h4 _ e rfl) _
            · rw [hsz]
              exact (h5.lt b hb).2
        · obtain rfl : j = k := by omega
          rw [HXS.out]
          refine ⟨_, _, ?_, Nat.le_refl _, ⟨hown3, Nat.le_refl _, fun b hb => (hown3.lt b hb).2⟩, fun b hb => ?_⟩
          · rw [List.getElem?_set_self (by omega)]
          · simp [Value.ownBlock] at hb
            omega
      have H7 : Hid (∀ (i j : Nat) (x y : Value) (b : Nat), i < j → j < k + 1 → (vs.set k (.slice (some ⟨wr.heap.size, 0, none⟩) xs.length xs.length))[i]? = some x → (vs.set k (.slice (some ⟨wr.heap.size, 0, none⟩) xs.length xs.length))[j]? = some y → x.ownBlock = some b → y.ownBlock = some b → False) := fun i j x y b hij hjk hx hy' hbx hby => by
        rcases Nat.lt_or_ge j k with hjk2 | hjk2
        · rw [List.getElem?_set_ne (by omega)] at hx hy'
          exact H3.out i j x y b hij hjk2 hx hy' hbx hby
        · obtain rfl : j = k := by omega
          rw [List.getElem?_set_ne (by omega)] at hx
          rw [List.getElem?_set_self (by omega)] at hy'
          obtain ⟨a, c, h1, h2, h3, h4⟩ := H2.out i hij
          rw [h1] at hx
          obtain rfl := Option.some.inj hx
          obtain rfl := Option.some.inj hy'
          simp [Value.ownBlock] at hby
          have := h3.2.2 b hbx
          omega
      have H8 : Hid ((vs.set k (.slice (some ⟨wr.heap.size, 0, none⟩) xs.length xs.length)).length = xss.length) := by show _ = _; simp [hvl]
      clear H1 H2 H3 HL H4 hfar hsz hown3 g2 o2 hy hvl
      go_wp2_with fail
      exact ⟨⟨k + 1, _, by omega, by go_num, H5, H8, HG3, H6, H7⟩, by simp [intOf]; omega⟩
    · have d1 : decide ((k : Int) < (xss.length : Int)) = false := by simp; omega
      obtain rfl : k = xss.length := by omega
      go_wp2_with fail
      go_ret
      refine ⟨_, rfl, HG1.out, ⟨Nat.le_refl _, Or.inr ⟨w.heap.size, xss.length, vs, rfl, Nat.le_refl _, Nat.le_refl _, (H1.out.lt w.heap.size rfl).2, H1.out, HL.out, H2.out, fun i j x y b hij hx hy => ?_⟩⟩, _, _, rfl⟩
      have hj : j < xss.length := by
        have := HL.out
        have h4 := (List.getElem?_eq_some_iff.1 hy).1
        omega
      exact H3.out i j x y b hij hj hx hy
end Go.Proofs.YtanijpekdnkicaaGreatDoor
/- Proved: rows of rows as a law carries them: comparisons, and rows with their mark. -/
namespace Go.Proofs.YtanijpekdnkicaaGreatDoor
open Go.ChangeShapes Go.WideShapes Go.ChangeAt Go.RowKit
set_option linter.unusedVariables false
set_option linter.unusedSimpArgs false
theorem OwS.rowS {xss : List (List Int)} {W : World} {lo hi : Nat} {v : Value} (h : OwS xss W lo hi v) : RowS W v xss := by
  obtain ⟨hh, h | ⟨p, cap, vs, rfl, hcap, hlo, hhi, ho, hvl, hj, hd⟩⟩ := h
  · obtain ⟨rfl, rfl⟩ := h
    exact Or.inl ⟨_, _, rfl, rfl⟩
  · rcases Nat.eq_zero_or_pos xss.length with h0 | h0
    · obtain rfl := List.length_eq_zero_iff.1 h0
      exact Or.inl ⟨_, _, rfl, rfl⟩
    · refine Or.inr ⟨p, 0, cap, fun j => vs.getD j (.slice none 0 0), rfl, by omega, h0, fun j hjl => ?_⟩
      obtain ⟨a, c, e, hc, o, hb⟩ := hj j hjl
      have e2 : vs.getD j (.slice none 0 0) = .slice a (xss.getD j []).length c := by simp [List.getD, e]
      show W.cell? ⟨p, 0 + j, none⟩ = some (vs.getD j (.slice none 0 0)) ∧ Row W (vs.getD j (.slice none 0 0)) _
      rw [e2]
      refine ⟨?_, o.row⟩
      rw [Nat.zero_add, World.ownsRow.cellAt ho j (by omega)]
      exact e
theorem far_OwS (xss : List (List Int)) : Far (OwS xss) := fun W W' lo hi v h hf hs => by
  obtain ⟨hh, h | ⟨p, cap, vs, e, hcap, hlo, hhi, ho, hvl, hj, hd⟩⟩ := h
  · exact ⟨by omega, Or.inl h⟩
  · refine ⟨by omega, Or.inr ⟨p, cap, vs, e, hcap, hlo, hhi, ⟨ho.1, ?_⟩, hvl, fun j hjl => ?_, hd⟩⟩
    · rcases ho.2 with hn | ⟨p', cap', cur, e', hb', hgg, rest⟩
      · exact .inl hn
      · refine .inr ⟨p', cap', cur, e', hb', ?_, rest⟩
        have : p' = p := by
          simp only [Value.slice.injEq, Option.some.injEq, Addr.mk.injEq] at e'
          exact e'.1.1.symm
        subst this
        rw [hf p' hlo hhi]
        exact hgg
    · obtain ⟨a, c, e1, hc, o, hb⟩ := hj j hjl
      exact ⟨a, c, e1, hc, far_OwI _ W W' lo hi _ o hf hs, hb⟩
set_option maxRecDepth 100000 in
set_option maxHeartbeats 2000000 in
theorem eqIntSS_yes (xss : List (List Int)) (v u : Value) (w : World) (hv : RowS w v xss) (hu : RowS w u xss) (hl : xss.length ≤ 1048576) (hr : ∀ r ∈ xss, r.length ≤ 1048576) :
    Calls Tryz.prog 89 #[v, u] w fun e w' => e = .returned (.bool true) ∧ Old w w' := by
  obtain ⟨a0, cap0, ev⟩ := hv.slice
  obtain ⟨a1, cap1, eu⟩ := hu.slice
  subst ev eu
  have HR : Hid (∀ r ∈ xss, r.length ≤ 1048576) := hr
  have HV : Hid (RowS w (.slice a0 xss.length cap0) xss) := hv
  have HU : Hid (RowS w (.slice a1 xss.length cap1) xss) := hu
  have dn : ((xss.length : Int) != (xss.length : Int)) = false := by simp
  clear hv hu hr
  go_enter Tryz.func89, Tryz.ntmps89
  go_wp2_with fail
  go_loopw [5] (fun i W => ∃ k : Nat, k ≤ xss.length ∧ i = .int .i64 k ∧ Hid (Old w W)) (fun i _ => xss.length - (intOf i).toNat)
  case atStart => exact ⟨0, by omega, rfl, Old.refl _⟩
  case round =>
    obtain ⟨k, hk, rfl, HG⟩ := hrel
    by_cases hlt : k < xss.length
    · have d1 : decide ((k : Int) < (xss.length : Int)) = true := by simp; omega
      rcases HV.out with ⟨a, cap, e, e2⟩ | ⟨b, o, cap, us, e, hb2, h3, hc⟩
      · subst e2
        simp at hlt
      rcases HU.out with ⟨a', cap', e', e2'⟩ | ⟨b', o', cap', us', e', hb2', h3', hc'⟩
      · subst e2'
        simp at hlt
      simp only [Value.slice.injEq, true_and] at e e'
      obtain ⟨rfl, rfl⟩ := e
      obtain ⟨rfl, rfl⟩ := e'
      obtain ⟨c0, r0⟩ := hc k hlt
      obtain ⟨c0', r0'⟩ := hc' k hlt
      have hm : xss.getD k [] ∈ xss := by simp [List.getD, hlt]
      have hrl := HR.out _ hm
      obtain ⟨x1, y1, e1⟩ := r0.slice
      obtain ⟨x2, y2, e3⟩ := r0'.slice
      rw [e1] at c0 r0
      rw [e3] at c0' r0'
      have q1 : wr.cell? ⟨b, o + k, none⟩ = some (.slice x1 (xss.getD k []).length y1) := (HG.out.cell (p := ⟨b, o + k, none⟩) hb2).trans c0
      have q2 : wr.cell? ⟨b', o' + k, none⟩ = some (.slice x2 (xss.getD k []).length y2) := (HG.out.cell (p := ⟨b', o' + k, none⟩) hb2').trans c0'
      have R1 : Hid (Row wr (.slice x1 (xss.getD k []).length y1) (xss.getD k [])) := r0.old HG.out
      have R2 : Hid (Row wr (.slice x2 (xss.getD k []).length y2) (xss.getD k [])) := r0'.old HG.out
      have hbr : b < wr.heap.size := Nat.lt_of_lt_of_le hb2 HG.out.size
      have hbr' : b' < wr.heap.size := Nat.lt_of_lt_of_le hb2' HG.out.size
      generalize xss.getD k [] = xs at *
      have HAS : Hid (∀ W' : World, Old wr W' → (W'.cell? ⟨b, o + k, none⟩ = some (.slice x1 xs.length y1) ∧ W'.cell? ⟨b', o' + k, none⟩ = some (.slice x2 xs.length y2))) := fun W' g => ⟨(g.cell (p := ⟨b, o + k, none⟩) hbr).trans q1, (g.cell (p := ⟨b', o' + k, none⟩) hbr').trans q2⟩
      clear hc hc' c0 c0' r0 r0' e1 e3 hm
      go_wp2_with fail
      go_region_held3 (fun W' => W'.cell? ⟨b, o + k, none⟩ = some (.slice x1 xs.length y1) ∧ W'.cell? ⟨b', o' + k, none⟩ = some (.slice x2 xs.length y2)) (first | with_reducible exact HAS.out _ GE.out | with_reducible exact HAS.out _ (Below.drew (Old.refl wr)) | with_reducible exact HAS.out _ (Old.refl wr)) (first
        | (go_at_call 48; refine (eqInts_yes xs _ _ _ (R1.out.old (Below.drew (Old.refl wr))) (R2.out.old (Below.drew (Old.refl wr))) (by omega)).mono ?_; rintro e w2 ⟨rfl, ge⟩; have GE : Hid (Old wr w2) := Old.trans (Below.drew (Old.refl wr)) ge; clear ge)
        | fail)
      have HG2 : Hid (Old w w2) := Old.trans HG.out GE.out
      go_wp2_with fail
      exact ⟨⟨k + 1, by omega, by go_num, HG2⟩, by simp [intOf]; omega⟩
    · have d1 : decide ((k : Int) < (xss.length : Int)) = false := by simp; omega
      go_wp2_with fail
      go_ret
      exact ⟨rfl, HG.out⟩
theorem OwS.put {xss : List (List Int)} {W : World} {lo hi k j : Nat} {v x : Value} (h : OwS xss W lo hi v) (hk : k < lo ∨ hi ≤ k) : OwS xss (W.setCell ⟨k, j, none⟩ x) lo hi v :=
  far_OwS xss W _ lo hi v h (fun b h1 h2 => heap_setCell_other _ _ _ _ (by show b ≠ k; omega)) (by simp)
theorem OwS.low {xss : List (List Int)} {W : World} {lo lo' hi : Nat} {v : Value} (h : OwS xss W lo hi v) (hl : lo' ≤ lo) : OwS xss W lo' hi v := by
  obtain ⟨hh, h | ⟨p, cap, vs, e, hcap, hlo, hhi, ho, hvl, hj, hd⟩⟩ := h
  · exact ⟨hh, Or.inl h⟩
  · refine ⟨hh, Or.inr ⟨p, cap, vs, e, hcap, by omega, hhi, ⟨ho.1, ?_⟩, hvl, fun j hjl => ?_, hd⟩⟩
    · rcases ho.2 with hn | ⟨p', cap', cur, e', hb', rest⟩
      · exact .inl hn
      · exact .inr ⟨p', cap', cur, e', by omega, rest⟩
    · obtain ⟨a, c, e1, hc, o, hb⟩ := hj j hjl
      exact ⟨a, c, e1, hc, ⟨Own.low o.1 hl, o.2.1, o.2.2⟩, hb⟩
theorem OwS.high {xss : List (List Int)} {W : World} {lo hi hi' : Nat} {v : Value} (h : OwS xss W lo hi v) (hl : hi ≤ hi') (hs : hi' ≤ W.heap.size) : OwS xss W lo hi' v := by
  obtain ⟨hh, h | ⟨p, cap, vs, e, hcap, hlo, hhi, ho, hvl, hj, hd⟩⟩ := h
  · exact ⟨hs, Or.inl h⟩
  · refine ⟨hs, Or.inr ⟨p, cap, vs, e, hcap, hlo, by omega, ho, hvl, fun j hjl => ?_, hd⟩⟩
    obtain ⟨a, c, e1, hc, o, hb⟩ := hj j hjl
    exact ⟨a, c, e1, hc, ⟨o.1, hs, fun b hb => by have := o.2.2 b hb; omega⟩, hb⟩
end Go.Proofs.YtanijpekdnkicaaGreatDoor
/- Proved: rows of rows as a law carries them: marks. -/
namespace Go.Proofs.YtanijpekdnkicaaGreatDoor
open Go.ChangeShapes Go.WideShapes Go.ChangeAt Go.RowKit
set_option linter.unusedVariables false
set_option linter.unusedSimpArgs false
def offL : List (List Int) → Nat → Nat
  | [], _ => 0
  | _ :: _, 0 => 0
  | r :: rs, j + 1 => r.length + offL rs j
theorem offL_zero (xss : List (List Int)) : offL xss 0 = 0 := by cases xss <;> rfl
theorem offL_succ : ∀ (xss : List (List Int)) (j : Nat), j < xss.length → offL xss (j + 1) = offL xss j + (xss.getD j []).length
  | [], j, h => by simp at h
  | r :: rs, 0, h => by
    show r.length + offL rs 0 = 0 + _
    rw [offL_zero]
    simp
  | r :: rs, j + 1, h => by
    have := offL_succ rs j (by simpa using h)
    show r.length + offL rs (j + 1) = r.length + offL rs j + _
    rw [this]
    simp [List.getD]
    omega
theorem offL_le : ∀ (xss : List (List Int)) (j : Nat), offL xss j ≤ offL xss xss.length
  | [], j => by simp [offL]
  | r :: rs, 0 => by simp [offL]
  | r :: rs, j + 1 => by
    have := offL_le rs j
    show r.length + offL rs j ≤ r.length + offL rs rs.length
    omega
end Go.Proofs.YtanijpekdnkicaaGreatDoor
/- Proved: rows of rows of rows as a law carries them: sizes, copies, comparisons. -/
namespace Go.Proofs.YtanijpekdnkicaaGreatDoor
open Go.ChangeShapes Go.WideShapes Go.ChangeAt Go.RowKit
set_option linter.unusedVariables false
set_option linter.unusedSimpArgs false
def RowT (w : World) (v : Value) (xsss : List (List (List Int))) : Prop :=
  (∃ a cap, v = .slice a 0 cap ∧ xsss = []) ∨ ∃ b o cap, ∃ us : Nat → Value, v = .slice (some ⟨b, o, none⟩) xsss.length cap ∧ b < w.heap.size ∧ 0 < xsss.length ∧ ∀ j, j < xsss.length → w.cell? ⟨b, o + j, none⟩ = some (us j) ∧ RowS w (us j) (xsss.getD j [])
theorem RowT.old {w w' : World} {v : Value} {xsss : List (List (List Int))} (h : RowT w v xsss) (g : Old w w') : RowT w' v xsss := by
  rcases h with h1 | ⟨b, o, cap, us, e, hb, h0, hc⟩
  · exact Or.inl h1
  · exact Or.inr ⟨b, o, cap, us, e, Nat.lt_of_lt_of_le hb g.size, h0, fun j hj => ⟨(g.cell (p := ⟨b, o + j, none⟩) hb).trans (hc j hj).1, (hc j hj).2.old g⟩⟩
theorem RowT.slice {w : World} {v : Value} {xsss : List (List (List Int))} (h : RowT w v xsss) : ∃ a cap, v = .slice a xsss.length cap := by
  rcases h with ⟨a, cap, e, e2⟩ | ⟨b, o, cap, us, e, _⟩
  · exact ⟨a, cap, by rw [e, e2]; rfl⟩
  · exact ⟨_, cap, e⟩
def offT : List (List (List Int)) → Nat → Nat
  | [], _ => 0
  | _ :: _, 0 => 0
  | r :: rs, j + 1 => offL r r.length + offT rs j
theorem offT_zero (xsss : List (List (List Int))) : offT xsss 0 = 0 := by cases xsss <;> rfl
theorem offT_succ : ∀ (xsss : List (List (List Int))) (j : Nat), j < xsss.length → offT xsss (j + 1) = offT xsss j + offL (xsss.getD j []) (xsss.getD j []).length
  | [], j, h => by simp at h
  | r :: rs, 0, h => by
    show offL r r.length + offT rs 0 = 0 + _
    rw [offT_zero]
    simp
  | r :: rs, j + 1, h => by
    have := offT_succ rs j (by simpa using h)
    show offL r r.length + offT rs (j + 1) = offL r r.length + offT rs j + _
    rw [this]
    simp [List.getD]
    omega
theorem offT_le : ∀ (xsss : List (List (List Int))) (j : Nat), offT xsss j ≤ offT xsss xsss.length
  | [], j => by simp [offT]
  | r :: rs, 0 => by simp [offT]
  | r :: rs, j + 1 => by
    have := offT_le rs j
    show offL r r.length + offT rs j ≤ offL r r.length + offT rs rs.length
    omega
def leftT : Int → List (List (List Int)) → Int
  | left, [] => left
  | left, r :: rs => if leftSS left r < 0 then -1 else leftT (leftSS left r) rs
def leftTT (left : Int) (xsss : List (List (List Int))) : Int := if left < (xsss.length : Int) then -1 else leftT (left - xsss.length) xsss
theorem leftL_sum : ∀ (xss : List (List Int)) (left : Int), 0 ≤ left → ¬ leftL left xss < 0 → leftL left xss + (offL xss xss.length : Int) = left
  | [], left, h0, h => by simp [leftL, offL]
  | r :: rs, left, h0, h => by
    unfold leftL at h ⊢
    by_cases hr : leftN left r.length < 0
    · rw [if_pos hr] at h
      omega
    · rw [if_neg hr] at h ⊢
      obtain ⟨q1, q2, q3⟩ := leftN_ok hr h0
      have := leftL_sum rs _ q3 h
      show leftL (leftN left r.length) rs + ((r.length + offL rs rs.length : Nat) : Int) = left
      omega
theorem leftSS_sum {xss : List (List Int)} {left : Int} (h0 : 0 ≤ left) (h : ¬ leftSS left xss < 0) : leftSS left xss + (offL xss xss.length : Int) ≤ left := by
  unfold leftSS at h ⊢
  by_cases hr : left < (xss.length : Int)
  · rw [if_pos hr] at h
    omega
  · rw [if_neg hr] at h ⊢
    have := leftL_sum xss _ (by omega) h
    omega
theorem leftT_ok : ∀ (xsss : List (List (List Int))) (left : Int), 0 ≤ left → ¬ leftT left xsss < 0 → 0 ≤ leftT left xsss ∧ leftT left xsss ≤ left ∧ (offT xsss xsss.length : Int) ≤ left ∧ ∀ r ∈ xsss, (r.length : Int) ≤ left ∧ ∀ q ∈ r, (q.length : Int) ≤ left
  | [], left, h0, h => ⟨h0, Int.le_refl _, by simpa [offT] using h0, by simp⟩
  | r :: rs, left, h0, h => by
    unfold leftT at h ⊢
    by_cases hr : leftSS left r < 0
    · rw [if_pos hr] at h
      omega
    · rw [if_neg hr] at h ⊢
      obtain ⟨q1, q2, q3, q4⟩ := leftSS_ok h0 hr
      have q5 := leftSS_sum h0 hr
      obtain ⟨p1, p2, p3, p4⟩ := leftT_ok rs _ q1 h
      refine ⟨p1, by omega, ?_, fun x hx => ?_⟩
      · show ((offL r r.length + offT rs rs.length : Nat) : Int) ≤ left
        omega
      · rcases List.mem_cons.1 hx with rfl | hx
        · exact ⟨q3, q4⟩
        · have := p4 x hx
          exact ⟨by omega, fun q hq => by have := this.2 q hq; omega⟩
theorem leftTT_ok {xsss : List (List (List Int))} {left : Int} (h0 : 0 ≤ left) (h : ¬ leftTT left xsss < 0) : 0 ≤ leftTT left xsss ∧ leftTT left xsss ≤ left ∧ (xsss.length : Int) ≤ left ∧ (offT xsss xsss.length : Int) ≤ left ∧ ∀ r ∈ xsss, (r.length : Int) ≤ left ∧ ∀ q ∈ r, (q.length : Int) ≤ left := by
  unfold leftTT at h ⊢
  by_cases hr : left < (xsss.length : Int)
  · rw [if_pos hr] at h
    omega
  · rw [if_neg hr] at h ⊢
    obtain ⟨p1, p2, p3, p4⟩ := leftT_ok xsss _ (by omega) h
    exact ⟨p1, by omega, by omega, by omega, fun r hr => by
      have := p4 r hr
      exact ⟨by omega, fun q hq => by have := this.2 q hq; omega⟩⟩
theorem leftSS_neg {left : Int} {xss : List (List Int)} (h0 : 0 ≤ left) (h : leftSS left xss < 0) : leftSS left xss = -1 := by
  unfold leftSS at h ⊢
  split
  · rfl
  · rename_i h2
    rw [if_neg h2] at h
    have key : ∀ (l : List (List Int)) (z : Int), 0 ≤ z → leftL z l < 0 → leftL z l = -1 := fun l => by
      induction l with
      | nil => intro z hz h; unfold leftL at h; omega
      | cons r rs ih =>
        intro z hz h
        unfold leftL at h ⊢
        by_cases hq : leftN z r.length < 0
        · rw [if_pos hq]
        · rw [if_neg hq] at h ⊢
          exact ih _ (by omega) h
    exact key _ _ (by omega) h
theorem leftTT_neg {left : Int} {xsss : List (List (List Int))} (h0 : 0 ≤ left) (h : leftTT left xsss < 0) : leftTT left xsss = -1 := by
  unfold leftTT at h ⊢
  split
  · rfl
  · rename_i h2
    rw [if_neg h2] at h
    have key : ∀ (l : List (List (List Int))) (z : Int), 0 ≤ z → leftT z l < 0 → leftT z l = -1 := fun l => by
      induction l with
      | nil => intro z hz h; unfold leftT at h; omega
      | cons r rs ih =>
        intro z hz h
        unfold leftT at h ⊢
        by_cases hq : leftSS z r < 0
        · rw [if_pos hq]
        · rw [if_neg hq] at h ⊢
          exact ih _ (by omega) h
    exact key _ _ (by omega) h
theorem drop_consT (xsss : List (List (List Int))) (k : Nat) (h : k < xsss.length) : xsss.drop k = xsss.getD k [] :: xsss.drop (k + 1) := by
  rw [List.drop_eq_getElem_cons h]
  simp [List.getD, h]
set_option maxRecDepth 100000 in
set_option maxHeartbeats 2000000 in
theorem szIntSSS_any (xsss : List (List (List Int))) (v : Value) (left : Int) (w : World) (hv : RowT w v xsss) (hl : xsss.length ≤ 9223372036854775807) (hr : ∀ r ∈ xsss, r.length ≤ 9223372036854775807 ∧ ∀ q ∈ r, q.length ≤ 9223372036854775807) (h0 : 0 ≤ left) (h1 : left ≤ 1048576) :
    Calls Tryz.prog 33 #[v, .int .i64 left] w fun e w' => e = .returned (.int .i64 (leftTT left xsss)) ∧ Old w w' := by
  obtain ⟨a0, cap0, ev⟩ := hv.slice
  subst ev
  by_cases hb : left < (xsss.length : Int)
  · have d : decide (left - (xsss.length : Int) < 0) = true := by simp; omega
    have HB : Hid (leftTT left xsss = -1) := by show _ = _; unfold leftTT; rw [if_pos hb]
    clear hv hr hb
    go_enter Tryz.func33, Tryz.ntmps33
    go_wp2_with fail
    go_ret
    exact ⟨ret_ii HB.out.symm, Old.refl _⟩
  · have d : decide (left - (xsss.length : Int) < 0) = false := by simp; omega
    have HB : Hid (leftT (left - xsss.length) (xsss.drop 0) = leftTT left xsss) := by show _ = _; unfold leftTT; rw [if_neg hb]; rfl
    have hl2 : 0 ≤ left - (xsss.length : Int) ∧ left - (xsss.length : Int) ≤ 1048576 := by omega
    generalize leftTT left xsss = R at *
    have HR : Hid (∀ r ∈ xsss, r.length ≤ 9223372036854775807 ∧ ∀ q ∈ r, q.length ≤ 9223372036854775807) := hr
    have HV : Hid (RowT w (.slice a0 xsss.length cap0) xsss) := hv
    clear hv hr
    go_enter Tryz.func33, Tryz.ntmps33
    go_wp2_with fail
    go_loopw [5, 1] (fun i l W => ∃ (k : Nat) (z : Int), k ≤ xsss.length ∧ i = .int .i64 k ∧ l = .int .i64 z ∧ 0 ≤ z ∧ z ≤ 1048576 ∧ Hid (leftT z (xsss.drop k) = R) ∧ Hid (Old w W)) (fun i _ _ => xsss.length - (intOf i).toNat)
    case atStart => exact ⟨0, left - xsss.length, by omega, rfl, rfl, by omega, by omega, HB, Old.refl _⟩
    case round =>
      obtain ⟨k, z, hk, rfl, rfl, z0, z1, H1, HG⟩ := hrel
      clear HB d
      by_cases hlt : k < xsss.length
      · have d1 : decide ((k : Int) < (xsss.length : Int)) = true := by simp; omega
        rcases HV.out with ⟨a, cap, e, e2⟩ | ⟨b, o, cap, us, e, hb2, h3, hc⟩
        · subst e2
          simp at hlt
        simp only [Value.slice.injEq, true_and] at e
        obtain ⟨rfl, rfl⟩ := e
        obtain ⟨c1, r1⟩ := hc k hlt
        obtain ⟨a1, cap1, e1⟩ := r1.slice
        rw [e1] at c1 r1
        have q1 := (HG.out.cell (p := ⟨b, o + k, none⟩) hb2).trans c1
        have R1 : Hid (RowS wr (.slice a1 (xsss.getD k []).length cap1) (xsss.getD k [])) := r1.old HG.out
        have hm : xsss.getD k [] ∈ xsss := by simp [List.getD, hlt]
        have hrl := HR.out _ hm
        have H2 : Hid ((if leftSS z (xsss.getD k []) < 0 then -1 else leftT (leftSS z (xsss.getD k [])) (xsss.drop (k + 1))) = R) := by
          have := H1.out
          rw [drop_consT xsss k hlt] at this
          unfold leftT at this
          exact this
        generalize xsss.getD k [] = xss at *
        have cz := fun W h => szIntSS_any xss (.slice a1 xss.length cap1) z W h hrl.1 hrl.2 z0 z1
        clear hc c1 r1 e1 H1 hm
        by_cases hz : leftSS z xss < 0
        · have H3 : Hid (-1 = R) := by have := H2.out; rw [if_pos hz] at this; exact this
          rw [leftSS_neg z0 hz] at cz
          clear H2 hz
          go_wp2_with fail
          refine (cz _ R1.out).mono ?_
          rintro e w1 ⟨rfl, g1⟩
          have HG2 : Hid (Old w w1) := Old.trans HG.out g1
          clear g1
          go_wp2_with fail
          go_ret
          exact ⟨ret_ii H3.out, HG2.out⟩
        · have H3 : Hid (leftT (leftSS z xss) (xsss.drop (k + 1)) = R) := by have := H2.out; rw [if_neg hz] at this; exact this
          obtain ⟨q3, q4, _, _⟩ := leftSS_ok z0 hz
          have d2 : decide (leftSS z xss < 0) = false := decide_eq_false hz
          clear H2 hz
          generalize leftSS z xss = z2 at *
          go_wp2_with fail
          refine (cz _ R1.out).mono ?_
          rintro e w1 ⟨rfl, g1⟩
          have HG2 : Hid (Old w w1) := Old.trans HG.out g1
          clear g1
          go_wp2_with fail
          exact ⟨⟨k + 1, z2, by omega, by go_num, rfl, by omega, by omega, H3, HG2⟩, by simp [intOf]; omega⟩
      · have d1 : decide ((k : Int) < (xsss.length : Int)) = false := by simp; omega
        have H2 : Hid (z = R) := by
          have := H1.out
          rw [List.drop_eq_nil_of_le (by omega)] at this
          unfold leftT at this
          exact this
        clear H1
        go_wp2_with fail
        go_ret
        exact ⟨ret_ii H2.out, HG.out⟩
abbrev TSS (xss : List (List Int)) : Thing := TS 22 1 xss.length (fun k => TI (xss.getD k []))
theorem good_TSS (xss : List (List Int)) : GoodT (TSS xss) := good_TS _ _ _ (fun _ => good_TI _)
abbrev TTT (xsss : List (List (List Int))) : Thing := TS 69 1 xsss.length (fun j => TSS (xsss.getD j []))
theorem good_TTT (xsss : List (List (List Int))) : GoodT (TTT xsss) := good_TS _ _ _ (fun _ => good_TSS _)
theorem one_get {vs : List Value} {j : Nat} (hj : j < vs.length) : cellsJ 1 vs j = [vs[j]] := by
  have h2 := cellsJ_len (n := 1) (m := vs.length) (vs := vs) (by omega) j hj
  have h3 := cellsJ_get 1 vs j 0 (by omega)
  rw [Nat.mul_one, Nat.add_zero, List.getElem?_eq_getElem hj] at h3
  match hcs : cellsJ 1 vs j, h2 with
  | [x], _ =>
    rw [hcs] at h3
    simp at h3
    rw [h3]
theorem OwS.tss {xss : List (List Int)} {W : World} {lo hi : Nat} {v : Value} (h : OwS xss W lo hi v) : ∃ B, TSS xss W B [v] ∧ ∀ b, B b → lo ≤ b ∧ b < hi := by
  obtain ⟨hh, h | ⟨p, cap, vs, rfl, hcap, hlo, hhi, ho, hvl, hj, hd⟩⟩ := h
  · obtain ⟨rfl, rfl⟩ := h
    exact ⟨fun _ => False, .inl ⟨rfl, rfl, fun b hb => hb⟩, fun b hb => hb.elim⟩
  · refine ⟨fun b => b = p ∨ ∃ j, j < xss.length ∧ (vs.getD j (.slice none 0 0)).ownBlock = some b, .inr ⟨p, cap, vs, fun j b => (vs.getD j (.slice none 0 0)).ownBlock = some b, rfl, ⟨⟨ho.1, ?_⟩, fun j hjl => ?_, fun j hjl => ?_, fun i j hi' hj' hij b h1 h2 => ?_⟩, fun b => Iff.rfl⟩, fun b hb => ?_⟩
    · rcases ho.2 with hn | ⟨p', cap', cur, e', hb', rest⟩
      · exact .inl hn
      · exact .inr ⟨p', cap', cur, e', Nat.zero_le _, rest⟩
    · obtain ⟨a, c, e, hc, o, hb⟩ := hj j hjl
      have e2 : vs.getD j (.slice none 0 0) = .slice a (xss.getD j []).length c := by simp [List.getD, e]
      have e3 : vs[j]'(by omega) = .slice a (xss.getD j []).length c := by
        have := List.getElem?_eq_getElem (l := vs) (i := j) (by omega)
        rw [e] at this
        exact (Option.some.inj this).symm
      rw [one_get (by omega), e3]
      refine ⟨a, c, rfl, Own.low o.1 (Nat.zero_le _), hc, fun b => ?_⟩
      show (vs.getD j (.slice none 0 0)).ownBlock = some b ↔ _
      rw [e2]
    · obtain ⟨a, c, e, hc, o, hb⟩ := hj j hjl
      have e2 : vs.getD j (.slice none 0 0) = .slice a (xss.getD j []).length c := by simp [List.getD, e]
      show ¬ (vs.getD j (.slice none 0 0)).ownBlock = some p
      rw [e2]
      exact fun hx => hb p hx rfl
    · have g1 : vs[i]? = some (vs.getD i (.slice none 0 0)) := by simp [List.getD, show i < vs.length by omega]
      have g2 : vs[j]? = some (vs.getD j (.slice none 0 0)) := by simp [List.getD, show j < vs.length by omega]
      rcases Nat.lt_or_ge i j with h3 | h3
      · exact hd i j _ _ b h3 g1 g2 h1 h2
      · exact hd j i _ _ b (by omega) g2 g1 h2 h1
    · rcases hb with rfl | ⟨j, hjl, hb⟩
      · exact ⟨hlo, hhi⟩
      · obtain ⟨a, c, e, hc, o, hb2⟩ := hj j hjl
        have e2 : vs.getD j (.slice none 0 0) = .slice a (xss.getD j []).length c := by simp [List.getD, e]
        rw [e2] at hb
        exact ⟨(o.1.lt b hb).1, o.2.2 b hb⟩
theorem TSS.owS {xss : List (List Int)} {W : World} {B : Nat → Prop} {v : Value} {lo hi : Nat} (h : TSS xss W B [v]) (hb : ∀ b, B b → lo ≤ b ∧ b < hi) (hh : hi ≤ W.heap.size) : OwS xss W lo hi v := by
  rcases h with ⟨h0, e, _⟩ | ⟨p, cap, vs, Bs, e, hc, hbb⟩
  · simp at e
    exact ⟨hh, .inl ⟨e, List.length_eq_zero_iff.1 h0⟩⟩
  simp at e
  subst e
  have hp := hb p ((hbb p).2 (.inl rfl))
  have hvl : vs.length = xss.length := by have := hc.row.1; omega
  have hcap : xss.length ≤ cap := by
    rcases hc.row.2 with ⟨hn, _⟩ | ⟨p', cap', cur, e', _, _, h3, _⟩
    · cases hn
    · simp only [Value.slice.injEq] at e'
      omega
  have hcell : ∀ j, j < xss.length → ∃ x, vs[j]? = some x ∧ TI (xss.getD j []) W (Bs j) [x] := fun j hj => by
    have h1 := hc.el j hj
    rw [one_get (by omega)] at h1
    exact ⟨_, List.getElem?_eq_getElem (by omega), h1⟩
  refine ⟨hh, .inr ⟨p, cap, vs, rfl, hcap, hp.1, hp.2, ⟨hc.row.1, ?_⟩, hvl, fun j hj => ?_, fun i j x y b hij hx hy hbx hby => ?_⟩⟩
  · rcases hc.row.2 with ⟨hn, _⟩ | ⟨p', cap', cur, e', _, rest⟩
    · cases hn
    · simp only [Value.slice.injEq, Option.some.injEq, Addr.mk.injEq, true_and, and_true] at e'
      obtain ⟨rfl, rfl⟩ := e'
      exact .inr ⟨p, cap, cur, rfl, hp.1, rest⟩
  · obtain ⟨x, e, hE⟩ := hcell j hj
    obtain ⟨a, c, rfl⟩ := hE.slice
    have hbl := hE.blocks
    have ho := hE.own (lo := lo) (fun b hb' => (hb b ((hbb b).2 (.inr ⟨j, hj, hb'⟩))).1)
    refine ⟨a, c, e, ?_, ⟨ho, hh, fun b hb' => (hb b ((hbb b).2 (.inr ⟨j, hj, (hbl b).2 hb'⟩))).2⟩, fun b hb' e2 => ?_⟩
    · obtain ⟨a2, c2, e2, _, f2, _⟩ := hE
      simp at e2
      rw [e2.2]
      exact f2
    · subst e2
      exact hc.np j hj ((hbl b).2 hb')
  · have hi' : i < xss.length := by have := (List.getElem?_eq_some_iff.1 hx).1; omega
    have hj' : j < xss.length := by have := (List.getElem?_eq_some_iff.1 hy).1; omega
    obtain ⟨x2, e, hE⟩ := hcell i hi'
    obtain ⟨y2, e2, hE2⟩ := hcell j hj'
    rw [e] at hx
    rw [e2] at hy
    obtain rfl := Option.some.inj hx
    obtain rfl := Option.some.inj hy
    exact hc.dis i j hi' hj' (by omega) b ((hE.blocks b).2 hbx) ((hE2.blocks b).2 hby)
theorem TSS.whole {xss : List (List Int)} {W : World} {B : Nat → Prop} {v : Value} (h : TSS xss W B [v]) : OwS xss W 0 W.heap.size v :=
  TSS.owS h (fun b hb => ⟨Nat.zero_le _, (good_TSS xss).lt h b hb⟩) (Nat.le_refl _)
theorem TSS.slice {xss : List (List Int)} {W : World} {B : Nat → Prop} {v : Value} (h : TSS xss W B [v]) : ∃ a c, v = .slice a xss.length c := TS.slice h
theorem TTT.rowT {xsss : List (List (List Int))} {W : World} {B : Nat → Prop} {v : Value} (h : TTT xsss W B [v]) : RowT W v xsss := by
  rcases h with ⟨h0, e, _⟩ | ⟨p, cap, vs, Bs, e, hc, hbb⟩
  · simp at e
    subst e
    exact .inl ⟨none, 0, rfl, List.length_eq_zero_iff.1 h0⟩
  simp at e
  subst e
  have hvl : vs.length = xsss.length := by have := hc.row.1; omega
  rcases Nat.eq_zero_or_pos xsss.length with h0 | h0
  · obtain rfl := List.length_eq_zero_iff.1 h0
    exact .inl ⟨_, _, rfl, rfl⟩
  refine .inr ⟨p, 0, cap, fun j => vs.getD j (.slice none 0 0), rfl, ownsRow_lt hc.row, h0, fun j hj => ?_⟩
  have h1 := hc.el j hj
  rw [one_get (by omega)] at h1
  have e2 : vs.getD j (.slice none 0 0) = vs[j]'(by omega) := by simp [List.getD, show j < vs.length by omega]
  show W.cell? ⟨p, 0 + j, none⟩ = some (vs.getD j (.slice none 0 0)) ∧ RowS W (vs.getD j (.slice none 0 0)) _
  rw [e2]
  refine ⟨?_, (TSS.whole h1).rowS⟩
  rw [Nat.zero_add, World.ownsRow.cellAt hc.row j (by omega)]
  exact List.getElem?_eq_getElem _
theorem Tryz.infoIntSS : (Tryz.prog.info? 69).map (fun i => (i.zero, i.size, i.bytes)) = some (some (.slice none 0 0), 1, 24) := by kernel_rfl
theorem cells_oneT {m k : Nat} {vs : List Value} (h : vs.length = m * 1) (hk : k < m) (a : Value) : cellsJ 1 (vs.set (k * 1 + 0) a) k = [a] := by
  have hl := cellsJ_len (n := 1) h k hk
  rw [cellsJ_set 1 _ k 0 k a (by omega), if_pos rfl]
  match cellsJ 1 vs k, hl with
  | [_], _ => rfl
theorem TSc.storeT {T : TypeId} {m k : Nat} {Es : Nat → Thing} {W : World} {p cap : Nat} {vs : List Value} {Bs : Nat → Nat → Prop} {B : Nat → Prop} (g : ∀ j, GoodT (Es j)) (h : TSc T 1 m k Es W p cap vs Bs) (hk : k < m) (a : Value)
    (he : ∀ W' : World, (∀ b, b ≠ p → W'.heap[b]? = W.heap[b]?) → Es k W' B [a]) (hp : ¬ B p) (hd : ∀ j, j < k → ∀ b, Bs j b → B b → False) :
    ∃ vs', TSc T 1 m (k + 1) Es (W.setCell ⟨p, k, none⟩ a) p cap vs' (fun q => if q = k then B else Bs q) := by
  have h1 := h.fill g 0 (by omega) a
  rw [Nat.mul_one, Nat.add_zero] at h1
  refine ⟨_, h1.more (B := B) ?_ hp hd⟩
  have := cells_oneT h.row.1 hk a
  rw [Nat.mul_one, Nat.add_zero] at this
  rw [this]
  exact he _ (fun b hb => heap_setCell_other _ _ _ _ hb)
set_option maxRecDepth 100000 in
set_option maxHeartbeats 4000000 in
theorem toIntSSS_any (xsss : List (List (List Int))) (v : Value) (w : World) (hv : RowT w v xsss) (hl : xsss.length ≤ 1048576) (hr : ∀ r ∈ xsss, r.length ≤ 1048576 ∧ ∀ q ∈ r, q.length ≤ 1048576) :
    Calls Tryz.prog 39 #[v] w fun e w' => ∃ v', e = .returned v' ∧ Old w w' ∧ Ows (TTT xsss) w' w.heap.size w'.heap.size [v'] := by
  obtain ⟨i0, hi, hz0, hz1, hz2⟩ := info_parts Tryz.infoIntSS
  obtain ⟨a0, cap0, ev⟩ := hv.slice
  subst ev
  have HR : Hid (∀ r ∈ xsss, r.length ≤ 1048576 ∧ ∀ q ∈ r, q.length ≤ 1048576) := hr
  have HV : Hid (RowT w (.slice a0 xsss.length cap0) xsss) := hv
  have HGD : Hid (∀ j, GoodT (TSS (xsss.getD j []))) := fun j => good_TSS _
  clear hv hr
  go_enter Tryz.func39, Tryz.ntmps39
  go_wp2_with (at_make; refine wpList_make_full _ rfl _ _ 25 rfl 0 69 i0 (.slice none 0 0) 1 Tryz.underlying25 hi hz0 hz1 .i64 .i64 _ _ xsss.length rfl rfl rfl rfl (by rw [hz2]; omega) (by unfold maxLen; omega) (Nat.zero_le _) ?_; intro w1 hown hgrow)
  have HO : Hid (TSc 69 1 xsss.length 0 (fun j => TSS (xsss.getD j [])) w1 w.heap.size xsss.length _ (fun _ _ => False)) := TSc.start hown
  have HG : Hid (Old w w1) := Below.grown (Below.refl _ _) hgrow (Nat.le_refl _) (fun _ h => by cases h)
  clear hown hgrow
  go_loopw [4] (fun i W => ∃ (k : Nat) (vs : List Value) (Bs : Nat → Nat → Prop), k ≤ xsss.length ∧ i = .int .i64 k ∧ Hid (TSc 69 1 xsss.length k (fun j => TSS (xsss.getD j [])) W w.heap.size xsss.length vs Bs) ∧ Hid (∀ j b, j < k → Bs j b → w.heap.size < b) ∧ Hid (Old w W)) (fun i _ => xsss.length - (intOf i).toNat)
  case atStart => exact ⟨0, _, _, by omega, rfl, HO, (fun j b hj => by omega), HG⟩
  case round =>
    obtain ⟨k, vs, Bs, hk, rfl, H1, HB, HG1⟩ := hrel
    clear HO HG
    by_cases hlt : k < xsss.length
    · have d1 : decide ((k : Int) < (xsss.length : Int)) = true := by simp; omega
      rcases HV.out with ⟨a, cap, e, e2⟩ | ⟨b, o, cap, us, e, hb2, h3, hc⟩
      · subst e2
        simp at hlt
      simp only [Value.slice.injEq, true_and] at e
      obtain ⟨rfl, rfl⟩ := e
      obtain ⟨c0, r0⟩ := hc k hlt
      have hm : xsss.getD k [] ∈ xsss := by simp [List.getD, hlt]
      have hrl := HR.out _ hm
      obtain ⟨a1, cap1, e1⟩ := r0.slice
      rw [e1] at c0 r0
      have q1 : wr.cell? ⟨b, o + k, none⟩ = some (.slice a1 (xsss.getD k []).length cap1) := (HG1.out.cell (p := ⟨b, o + k, none⟩) hb2).trans c0
      have HR1 : Hid (RowS wr (.slice a1 (xsss.getD k []).length cap1) (xsss.getD k [])) := r0.old HG1.out
      obtain ⟨xss, hxss⟩ : ∃ xss, xsss.getD k [] = xss := ⟨_, rfl⟩
      have HEL : Hid (TSS (xsss.getD k []) = TSS xss) := by show _ = _; rw [hxss]
      rw [hxss] at q1 HR1 hrl
      clear hc c0 r0 e1 hm hxss
      go_wp2_with fail
      refine (toIntSS_any xss _ _ HR1.out hrl.1 hrl.2).mono ?_
      rintro e w2 ⟨v', rfl, g2, o2, a2, c2, rfl⟩
      have hsr : w.heap.size < wr.heap.size := ownsRow_lt H1.out.row
      have H2 := H1.out.old HGD.out g2
      obtain ⟨y0, hy0⟩ : ∃ y, w2.cell? ⟨w.heap.size, k, none⟩ = some y := by
        have h5 := H2.cell k 0 hlt (by omega)
        rw [Nat.mul_one, Nat.add_zero] at h5
        have h6 := cellsJ_len H2.row.1 k hlt
        exact ⟨_, h5.trans (List.getElem?_eq_getElem (by omega))⟩
      have f0 : w2.frozen? ⟨w.heap.size, k, none⟩ = false := H2.frozen _
      obtain ⟨B, hTI, hBlo⟩ := o2.tss
      have hst := H2.storeT HGD.out hlt (.slice a2 xss.length c2) (B := B) (fun W' hW' => by
        rw [HEL.out]
        refine (good_TSS xss).far hTI (fun b hb => hW' b ?_)
        have := hBlo b hb
        omega) (fun hb => by have := hBlo _ hb; omega) (fun j hj b h1 h2 => by
          have h4 := H1.out.lt HGD.out j b hj h1
          have := hBlo b h2
          omega)
      obtain ⟨vs', H3⟩ := hst
      have HN : Hid (TSc 69 1 xsss.length (k + 1) (fun j => TSS (xsss.getD j [])) (w2.setCell ⟨w.heap.size, k, none⟩ (.slice a2 xss.length c2)) w.heap.size xsss.length vs' (fun q => if q = k then B else Bs q)) := H3
      have HNB : Hid (∀ j b, j < k + 1 → (fun q => if q = k then B else Bs q) j b → w.heap.size < b) := fun j b hj hb => by
        by_cases e : j = k
        · simp only [e, if_true] at hb
          have := hBlo b hb
          omega
        · simp only [e, if_false] at hb
          exact HB.out j b (by omega) hb
      have HG2 : Hid (Old w (w2.setCell ⟨w.heap.size, k, none⟩ (.slice a2 xss.length c2))) := (Old.trans HG1.out g2).own (p := ⟨w.heap.size, k, none⟩) (Nat.le_refl _) _
      clear H1 H2 H3 g2 o2 hTI hBlo HB HEL
      go_wp2_with fail
      exact ⟨⟨k + 1, vs', _, by omega, by go_num, HN, HNB, HG2⟩, by simp [intOf]; omega⟩
    · have d1 : decide ((k : Int) < (xsss.length : Int)) = false := by simp; omega
      obtain rfl : k = xsss.length := by omega
      go_wp2_with fail
      go_ret
      exact ⟨_, rfl, HG1.out, H1.out.done HGD.out (Nat.le_refl _) (fun j b hj hb => Nat.le_of_lt (HB.out j b hj hb))⟩
set_option maxRecDepth 100000 in
set_option maxHeartbeats 2000000 in
theorem eqIntSSS_yes (xsss : List (List (List Int))) (v u : Value) (w : World) (hv : RowT w v xsss) (hu : RowT w u xsss) (hl : xsss.length ≤ 1048576) (hr : ∀ r ∈ xsss, r.length ≤ 1048576 ∧ ∀ q ∈ r, q.length ≤ 1048576) :
    Calls Tryz.prog 47 #[v, u] w fun e w' => e = .returned (.bool true) ∧ Old w w' := by
  obtain ⟨a0, cap0, ev⟩ := hv.slice
  obtain ⟨a1, cap1, eu⟩ := hu.slice
  subst ev eu
  have HR : Hid (∀ r ∈ xsss, r.length ≤ 1048576 ∧ ∀ q ∈ r, q.length ≤ 1048576) := hr
  have HV : Hid (RowT w (.slice a0 xsss.length cap0) xsss) := hv
  have HU : Hid (RowT w (.slice a1 xsss.length cap1) xsss) := hu
  have dn : ((xsss.length : Int) != (xsss.length : Int)) = false := by simp
  clear hv hu hr
  go_enter Tryz.func47, Tryz.ntmps47
  go_wp2_with fail
  go_loopw [5] (fun i W => ∃ k : Nat, k ≤ xsss.length ∧ i = .int .i64 k ∧ Hid (Old w W)) (fun i _ => xsss.length - (intOf i).toNat)
  case atStart => exact ⟨0, by omega, rfl, Old.refl _⟩
  case round =>
    obtain ⟨k, hk, rfl, HG⟩ := hrel
    by_cases hlt : k < xsss.length
    · have d1 : decide ((k : Int) < (xsss.length : Int)) = true := by simp; omega
      rcases HV.out with ⟨a, cap, e, e2⟩ | ⟨b, o, cap, us, e, hb2, h3, hc⟩
      · subst e2
        simp at hlt
      rcases HU.out with ⟨a', cap', e', e2'⟩ | ⟨b', o', cap', us', e', hb2', h3', hc'⟩
      · subst e2'
        simp at hlt
      simp only [Value.slice.injEq, true_and] at e e'
      obtain ⟨rfl, rfl⟩ := e
      obtain ⟨rfl, rfl⟩ := e'
      obtain ⟨c0, r0⟩ := hc k hlt
      obtain ⟨c0', r0'⟩ := hc' k hlt
      have hm : xsss.getD k [] ∈ xsss := by simp [List.getD, hlt]
      have hrl := HR.out _ hm
      obtain ⟨x1, y1, e1⟩ := r0.slice
      obtain ⟨x2, y2, e3⟩ := r0'.slice
      rw [e1] at c0 r0
      rw [e3] at c0' r0'
      have q1 := (HG.out.cell (p := ⟨b, o + k, none⟩) hb2).trans c0
      have q2 := (HG.out.cell (p := ⟨b', o' + k, none⟩) hb2').trans c0'
      have R1 : Hid (RowS wr (.slice x1 (xsss.getD k []).length y1) (xsss.getD k [])) := r0.old HG.out
      have R2 : Hid (RowS wr (.slice x2 (xsss.getD k []).length y2) (xsss.getD k [])) := r0'.old HG.out
      have hbr : b < wr.heap.size := Nat.lt_of_lt_of_le hb2 HG.out.size
      have hbr' : b' < wr.heap.size := Nat.lt_of_lt_of_le hb2' HG.out.size
      generalize xsss.getD k [] = xs at *
      have HAS : Hid (∀ W' : World, Old wr W' → (W'.cell? ⟨b, o + k, none⟩ = some (.slice x1 xs.length y1) ∧ W'.cell? ⟨b', o' + k, none⟩ = some (.slice x2 xs.length y2))) := fun W' g => ⟨(g.cell (p := ⟨b, o + k, none⟩) hbr).trans q1, (g.cell (p := ⟨b', o' + k, none⟩) hbr').trans q2⟩
      clear hc hc' c0 c0' r0 r0' e1 e3 hm
      go_wp2_with fail
      go_region_held3 (fun W' => W'.cell? ⟨b, o + k, none⟩ = some (.slice x1 xs.length y1) ∧ W'.cell? ⟨b', o' + k, none⟩ = some (.slice x2 xs.length y2)) (first | with_reducible exact HAS.out _ GE.out | with_reducible exact HAS.out _ (Below.drew (Old.refl wr)) | with_reducible exact HAS.out _ (Old.refl wr)) (first
        | (go_at_call 89; refine (eqIntSS_yes xs _ _ _ (R1.out.old (Below.drew (Old.refl wr))) (R2.out.old (Below.drew (Old.refl wr))) hrl.1 hrl.2).mono ?_; rintro e w2 ⟨rfl, ge⟩; have GE : Hid (Old wr w2) := Old.trans (Below.drew (Old.refl wr)) ge; clear ge)
        | fail)
      have HG2 : Hid (Old w w2) := Old.trans HG.out GE.out
      go_wp2_with fail
      exact ⟨⟨k + 1, by omega, by go_num, HG2⟩, by simp [intOf]; omega⟩
    · have d1 : decide ((k : Int) < (xsss.length : Int)) = false := by simp; omega
      go_wp2_with fail
      go_ret
      exact ⟨rfl, HG.out⟩
end Go.Proofs.YtanijpekdnkicaaGreatDoor
/- Proved: pairs of rows as a law carries them: sizes, copies, comparisons, marks. -/
namespace Go.Proofs.YtanijpekdnkicaaGreatDoor
open Go.ChangeShapes Go.WideShapes Go.ChangeAt Go.RowKit
set_option linter.unusedVariables false
set_option linter.unusedSimpArgs false
theorem hidK {A : Prop} (h : A) : Hid A := h
def XPr (xss yss : List (List Int)) (W : World) (lo hi : Nat) (g : Array Value) : Prop := ∃ a c a' c' B, g = #[.slice a xss.length c, .slice a' yss.length c'] ∧ lo ≤ B ∧ B ≤ hi ∧ OwS xss W lo B (.slice a xss.length c) ∧ OwS yss W B hi (.slice a' yss.length c')
theorem shape_XPr {xss yss : List (List Int)} (W : World) (lo hi : Nat) (g : Array Value) (h : XPr xss yss W lo hi g) : ∃ a c a' c', g = #[.slice a xss.length c, .slice a' yss.length c'] := by
  obtain ⟨a, c, a', c', B, e, h1, h2, o, o'⟩ := h
  exact ⟨a, c, a', c', e⟩
def leftPr (left : Int) (xss yss : List (List Int)) : Int := if leftSS left xss < 0 then -1 else leftSS (leftSS left xss) yss
theorem leftPr_ok {xss yss : List (List Int)} {left : Int} (h0 : 0 ≤ left) (h : ¬ leftPr left xss yss < 0) : ¬ leftSS left xss < 0 ∧ 0 ≤ leftSS left xss ∧ leftPr left xss yss = leftSS (leftSS left xss) yss ∧ ¬ leftSS (leftSS left xss) yss < 0 := by
  unfold leftPr at h ⊢
  by_cases hx : leftSS left xss < 0
  · rw [if_pos hx] at h
    omega
  · rw [if_neg hx] at h ⊢
    exact ⟨hx, by omega, rfl, h⟩
set_option maxHeartbeats 1000000 in
theorem kpr_sz (xss yss : List (List Int)) (v v' : Value) (left : Int) (w : World) (hv : RowS w v xss) (hv' : RowS w v' yss) (hl : xss.length ≤ 9223372036854775807) (hr : ∀ r ∈ xss, r.length ≤ 9223372036854775807) (hl' : yss.length ≤ 9223372036854775807) (hr' : ∀ r ∈ yss, r.length ≤ 9223372036854775807) (h0 : 0 ≤ left) (h1 : left ≤ 1048576) :
    Calls Tryz.prog 34 #[.agg #[v, v'], .int .i64 left] w fun e w' => e = .returned (.int .i64 (leftPr left xss yss)) ∧ Old w w' := by
  have c1 := hidK (fun W (h : Old w W) => szIntSS_any xss v left W (hv.old h) hl hr h0 h1)
  have c2 := hidK (fun W (h : Old w W) (z : Int) (hz0 : 0 ≤ z) (hz1 : z ≤ 1048576) => szIntSS_any yss v' z W (hv'.old h) hl' hr' hz0 hz1)
  obtain ⟨a0, cap0, ev⟩ := hv.slice
  obtain ⟨a1, cap1, ev'⟩ := hv'.slice
  subst ev ev'
  have HA : Hid (Old w (w.alloc (.cells #[.slice a0 xss.length cap0, .slice a1 yss.length cap1] 71))) := (Old.refl w).alloc _
  have HB : Hid (Bk (w.alloc (.cells #[.slice a0 xss.length cap0, .slice a1 yss.length cap1] 71)) w.heap.size #[.slice a0 xss.length cap0, .slice a1 yss.length cap1] 71) := Bk.new' w _ _ rfl
  clear hv hr hv' hr' hl hl'
  by_cases hz : leftSS left xss < 0
  · have e1 := leftSS_neg h0 hz
    rw [show leftPr left xss yss = -1 by unfold leftPr; rw [if_pos hz]]
    rw [e1] at c1
    clear hz e1 c2
    go_enter Tryz.func34, Tryz.ntmps34
    go_wp2_with fail
    refine (c1.out _ HA.out).mono ?_
    rintro e w1 ⟨rfl, g1⟩
    have HG : Hid (Old w w1) := Old.trans HA.out g1
    clear g1
    go_wp2_with fail
    go_ret
    exact ⟨rfl, HG.out⟩
  · have d : decide (leftSS left xss < 0) = false := decide_eq_false hz
    have ok := leftSS_ok h0 hz
    rw [show leftPr left xss yss = leftSS (leftSS left xss) yss by unfold leftPr; rw [if_neg hz]]
    have hzb : 0 ≤ leftSS left xss ∧ leftSS left xss ≤ 1048576 := ⟨ok.1, by omega⟩
    clear hz ok
    generalize leftSS left xss = z at *
    have c3 := hidK (fun W (h : Old w W) => c2.out W h z hzb.1 hzb.2)
    clear c2
    by_cases hy : leftSS z yss < 0
    · have e1 := leftSS_neg hzb.1 hy
      rw [e1] at c3 ⊢
      clear hy e1
      go_enter Tryz.func34, Tryz.ntmps34
      go_wp2_with fail
      refine (c1.out _ HA.out).mono ?_
      rintro e w1 ⟨rfl, g1⟩
      have HG : Hid (Old w w1) := Old.trans HA.out g1
      have HB1 := hidK (HB.out.old g1)
      have x1 := HB1.out.c (i := 1) rfl
      clear g1
      go_wp2_with fail
      refine (c3.out _ HG.out).mono ?_
      rintro e w2 ⟨rfl, g2⟩
      have HG2 : Hid (Old w w2) := Old.trans HG.out g2
      clear g2 x1
      go_wp2_with fail
      go_ret
      exact ⟨rfl, HG2.out⟩
    · have d2 : decide (leftSS z yss < 0) = false := decide_eq_false hy
      generalize leftSS z yss = z2 at *
      go_enter Tryz.func34, Tryz.ntmps34
      go_wp2_with fail
      refine (c1.out _ HA.out).mono ?_
      rintro e w1 ⟨rfl, g1⟩
      have HG : Hid (Old w w1) := Old.trans HA.out g1
      have HB1 := hidK (HB.out.old g1)
      have x1 := HB1.out.c (i := 1) rfl
      clear g1
      go_wp2_with fail
      refine (c3.out _ HG.out).mono ?_
      rintro e w2 ⟨rfl, g2⟩
      have HG2 : Hid (Old w w2) := Old.trans HG.out g2
      clear g2 x1
      go_wp2_with fail
      go_ret
      exact ⟨rfl, HG2.out⟩
set_option maxHeartbeats 2000000 in
theorem kpr_to (xss yss : List (List Int)) (v v' : Value) (w : World) (h : RowS w v xss) (h' : RowS w v' yss) (hl : xss.length ≤ 1048576) (hr : ∀ r ∈ xss, r.length ≤ 1048576) (hl' : yss.length ≤ 1048576) (hr' : ∀ r ∈ yss, r.length ≤ 1048576) :
    Calls Tryz.prog 40 #[.agg #[v, v']] w fun e w' => ∃ g, e = .returned (.agg g) ∧ Old w w' ∧ XPr xss yss w' w.heap.size w'.heap.size g := by
  have c1 := hidK (fun W (q : Old w W) => toIntSS_any xss v W (h.old q) hl hr)
  have c2 := hidK (fun W (q : Old w W) => toIntSS_any yss v' W (h'.old q) hl' hr')
  obtain ⟨a0, cap0, ev⟩ := h.slice
  obtain ⟨a1, cap1, ev'⟩ := h'.slice
  subst ev ev'
  clear h hr h' hr' hl hl'
  obtain ⟨B1, hB1⟩ : ∃ B : World, ((w.alloc (.cells #[.slice a0 xss.length cap0, .slice a1 yss.length cap1] 71)).alloc (.cells #[.slice none 0 0, .slice none 0 0] 77)).alloc (.cells #[.slice none 0 0, .slice none 0 0] 77) = B := ⟨_, rfl⟩
  have O1 : Hid (Old w B1) := by rw [← hB1]; exact (((Old.refl w).alloc _).alloc _).alloc _
  have P1 : Hid (Bk B1 w.heap.size #[.slice a0 xss.length cap0, .slice a1 yss.length cap1] 71) := by rw [← hB1]; exact ((Bk.new' w _ _ rfl).alloc _).alloc _
  have Q1 : Hid (Bk B1 (w.heap.size + 1) #[.slice none 0 0, .slice none 0 0] 77) := by rw [← hB1]; exact (Bk.new' _ _ _ (by simp)).alloc _
  have R1 : Hid (Bk B1 (w.heap.size + 1 + 1) #[.slice none 0 0, .slice none 0 0] 77) := by rw [← hB1]; exact Bk.new' _ _ _ (by simp)
  have S1 : Hid (B1.heap.size = w.heap.size + 1 + 1 + 1) := by rw [← hB1]; show _ = _; simp
  obtain ⟨kp, hkp⟩ : ∃ kp, w.heap.size = kp := ⟨_, rfl⟩
  have HKP := hidK hkp
  rw [hkp] at P1 Q1 R1 S1
  have x0 := P1.out.c (i := 0) rfl
  go_enter Tryz.func40, Tryz.ntmps40
  go_wp2_with fail
  refine (c1.out _ O1.out).mono ?_
  rintro e w1 ⟨v1, rfl, g1, o1, b1, d1, rfl⟩
  have G1 := hidK (Old.trans O1.out g1)
  have P2 := hidK (P1.out.old g1)
  have Q2 := hidK (Q1.out.old g1)
  have R2 := hidK (R1.out.old g1)
  have O2 : Hid (OwS xss w1 (kp + 1 + 1 + 1) w1.heap.size (.slice b1 xss.length d1)) := by
    have := o1
    rw [S1.out] at this
    exact this
  have z0 := R2.out.c (i := 0) rfl
  have f0 : w1.frozen? ⟨kp + 1 + 1, 0, none⟩ = false := by simp [World.frozen?, show w1.heap[kp + 1 + 1]? = _ from R2.out]
  clear g1 o1 x0 hB1 hkp
  obtain ⟨B2, hB2⟩ : ∃ B : World, w1.setCell ⟨kp + 1 + 1, 0, none⟩ (.slice b1 xss.length d1) = B := ⟨_, rfl⟩
  have hS : B2.heap.size = w1.heap.size := by rw [← hB2]; simp
  have O3 : Hid (Old w B2) := by rw [← hB2]; exact G1.out.own (p := ⟨kp + 1 + 1, 0, none⟩) (by have := HKP.out; show w.heap.size ≤ kp + 1 + 1; omega) _
  have P3 : Hid (Bk B2 kp #[.slice a0 xss.length cap0, .slice a1 yss.length cap1] 71) := by rw [← hB2]; exact (heap_setCell_other w1 ⟨kp + 1 + 1, 0, none⟩ kp _ (by show kp ≠ kp + 1 + 1; omega)).trans P2.out
  have Q3 : Hid (Bk B2 (kp + 1) #[.slice none 0 0, .slice none 0 0] 77) := by rw [← hB2]; exact (heap_setCell_other w1 ⟨kp + 1 + 1, 0, none⟩ (kp + 1) _ (by show kp + 1 ≠ kp + 1 + 1; omega)).trans Q2.out
  have R3 : Hid (Bk B2 (kp + 1 + 1) #[.slice b1 xss.length d1, .slice none 0 0] 77) := by rw [← hB2]; exact heap_setCell_same w1 (kp + 1 + 1) 0 _ _ _ R2.out
  have O4 : Hid (OwS xss B2 (kp + 1 + 1 + 1) w1.heap.size (.slice b1 xss.length d1)) := by rw [← hB2]; exact O2.out.put (Or.inl (by omega))
  have L1 : Hid (kp + 1 + 1 + 1 ≤ w1.heap.size) := by have := O2.out; have h3 := R2.out.lt; show _ ≤ _; omega
  clear O2 P2 Q2 R2 G1 O1 P1 Q1 R1 S1
  have x1 := P3.out.c (i := 1) rfl
  go_wp2_with fail
  refine (c2.out _ O3.out).mono ?_
  rintro e w2 ⟨v2, rfl, g2, o2, b2, d2, rfl⟩
  have G2 := hidK (Old.trans O3.out g2)
  have Q4 := hidK (Q3.out.old g2)
  have R4 := hidK (R3.out.old g2)
  have O5 : Hid (OwS xss w2 (kp + 1 + 1 + 1) w1.heap.size (.slice b1 xss.length d1)) := (far_OwS xss).old O4.out g2 (by omega)
  have O6 : Hid (OwS yss w2 w1.heap.size w2.heap.size (.slice b2 yss.length d2)) := by rw [← hS]; exact o2
  have L2 : Hid (w1.heap.size ≤ w2.heap.size) := by rw [← hS]; exact g2.size
  clear g2 o2 x1 O4 O3 P3 Q3 R3 hB2 hS
  obtain ⟨km, hkm⟩ : ∃ k, w1.heap.size = k := ⟨_, rfl⟩
  rw [hkm] at O5 O6 L1 L2
  have z0 := R4.out.c (i := 0) rfl
  have z1 := R4.out.c (i := 1) rfl
  have f1 : w2.frozen? ⟨kp + 1 + 1, 1, none⟩ = false := by simp [World.frozen?, show w2.heap[kp + 1 + 1]? = _ from R4.out]
  have z2 := Q4.out.c (i := 0) rfl
  have z3 := Q4.out.c (i := 1) rfl
  have f2 : w2.frozen? ⟨kp + 1, 0, none⟩ = false := by simp [World.frozen?, show w2.heap[kp + 1]? = _ from Q4.out]
  have f3 : w2.frozen? ⟨kp + 1, 1, none⟩ = false := by simp [World.frozen?, show w2.heap[kp + 1]? = _ from Q4.out]
  go_wp2_with fail
  have hkp' := HKP.out
  have l1 := L1.out
  have l2 := L2.out
  have Q5 : Bk (w2.setCell ⟨kp + 1 + 1, 1, none⟩ (.slice b2 yss.length d2)) (kp + 1) #[.slice none 0 0, .slice none 0 0] 77 := (heap_setCell_other w2 ⟨kp + 1 + 1, 1, none⟩ (kp + 1) _ (by show kp + 1 ≠ kp + 1 + 1; omega)).trans Q4.out
  have Q6 : Bk (((w2.setCell ⟨kp + 1 + 1, 1, none⟩ (.slice b2 yss.length d2)).setCell ⟨kp + 1, 0, none⟩ (.slice b1 xss.length d1)).setCell ⟨kp + 1, 1, none⟩ (.slice b2 yss.length d2)) (kp + 1) #[.slice b1 xss.length d1, .slice b2 yss.length d2] 77 := heap_setCell_same _ (kp + 1) 1 _ _ _ (heap_setCell_same _ (kp + 1) 0 _ _ _ Q5)
  have q0 := Q6.c (i := 0) rfl
  have q1 := Q6.c (i := 1) rfl
  refine bodyPost_ret (v := .agg #[.slice b1 xss.length d1, .slice b2 yss.length d2]) (by simp [results, Tryz.results40, go_sem, q0, q1]) rfl ?_
  refine ⟨_, rfl, ((G2.out.own (p := ⟨kp + 1 + 1, 1, none⟩) (by show w.heap.size ≤ kp + 1 + 1; omega) _).own (p := ⟨kp + 1, 0, none⟩) (by show w.heap.size ≤ kp + 1; omega) _).own (p := ⟨kp + 1, 1, none⟩) (by show w.heap.size ≤ kp + 1; omega) _, b1, d1, b2, d2, km, rfl, by omega, by simp; omega, ?_, ?_⟩
  · exact (((O5.out.put (k := kp + 1 + 1) (j := 1) (x := .slice b2 yss.length d2) (by omega)).put (k := kp + 1) (j := 0) (x := .slice b1 xss.length d1) (by omega)).put (k := kp + 1) (j := 1) (x := .slice b2 yss.length d2) (by omega)).low (by omega)
  · exact (((O6.out.put (k := kp + 1 + 1) (j := 1) (x := .slice b2 yss.length d2) (by omega)).put (k := kp + 1) (j := 0) (x := .slice b1 xss.length d1) (by omega)).put (k := kp + 1) (j := 1) (x := .slice b2 yss.length d2) (by omega)).high (by simp) (Nat.le_refl _)
set_option maxHeartbeats 1000000 in
theorem eqPair_yesV (xss yss : List (List Int)) (v0 v1 v2 v3 : Value) (w : World) (r0 : RowS w v0 xss) (r1 : RowS w v1 yss) (r2 : RowS w v2 xss) (r3 : RowS w v3 yss) (hl : xss.length ≤ 1048576) (hr : ∀ r ∈ xss, r.length ≤ 1048576) (hl' : yss.length ≤ 1048576) (hr' : ∀ r ∈ yss, r.length ≤ 1048576) :
    Calls Tryz.prog 49 #[.agg #[v0, v1], .agg #[v2, v3]] w fun e w' => e = .returned (.bool true) ∧ Old w w' := by
  have K1 := hidK (fun W (q : Old w W) => eqIntSS_yes xss _ _ W (r0.old q) (r2.old q) hl hr)
  have K2 := hidK (fun W (q : Old w W) => eqIntSS_yes yss _ _ W (r1.old q) (r3.old q) hl' hr')
  obtain ⟨a0, c0, rfl⟩ := r0.slice
  obtain ⟨a1, c1, rfl⟩ := r1.slice
  obtain ⟨a2, c2, rfl⟩ := r2.slice
  obtain ⟨a3, c3, rfl⟩ := r3.slice
  clear r0 r1 r2 r3 hl hr hl' hr'
  obtain ⟨B1, hB1⟩ : ∃ B : World, (w.alloc (.cells #[.slice a0 xss.length c0, .slice a1 yss.length c1] 77)).alloc (.cells #[.slice a2 xss.length c2, .slice a3 yss.length c3] 77) = B := ⟨_, rfl⟩
  have O1 : Hid (Old w B1) := by rw [← hB1]; exact ((Old.refl w).alloc _).alloc _
  have P1 : Hid (Bk B1 w.heap.size #[.slice a0 xss.length c0, .slice a1 yss.length c1] 77) := by rw [← hB1]; exact (Bk.new' w _ _ rfl).alloc _
  have Q1 : Hid (Bk B1 (w.heap.size + 1) #[.slice a2 xss.length c2, .slice a3 yss.length c3] 77) := by rw [← hB1]; exact Bk.new' _ _ _ (by simp)
  have x0 := P1.out.c (i := 0) rfl
  have y0 := Q1.out.c (i := 0) rfl
  go_enter Tryz.func49, Tryz.ntmps49
  go_wp2_with fail
  refine (K1.out _ O1.out).mono ?_
  rintro e w1 ⟨rfl, g1⟩
  have HG : Hid (Old w w1) := Old.trans O1.out g1
  have P2 := hidK (P1.out.old g1)
  have Q2 := hidK (Q1.out.old g1)
  have x1 := P2.out.c (i := 1) rfl
  have y1 := Q2.out.c (i := 1) rfl
  clear g1 x0 y0 hB1 O1 P1 Q1 K1
  go_wp2_with fail
  refine (K2.out _ HG.out).mono ?_
  rintro e w2 ⟨rfl, g2⟩
  have HG2 : Hid (Old w w2) := Old.trans HG.out g2
  clear g2 x1 y1
  go_wp2_with fail
  go_ret
  exact ⟨rfl, HG2.out⟩
end Go.Proofs.YtanijpekdnkicaaGreatDoor
/- Proved: ciphers as a law carries them: sizes, copies, comparisons. -/
namespace Go.Proofs.YtanijpekdnkicaaGreatDoor
open Go.ChangeShapes Go.WideShapes Go.ChangeAt Go.RowKit
set_option linter.unusedVariables false
set_option linter.unusedSimpArgs false
def XC (xsss : List (List (List Int))) (W : World) (lo hi : Nat) (g : Array Value) : Prop := ∃ a c, g = #[.slice a xsss.length c] ∧ Ows (TTT xsss) W lo hi [.slice a xsss.length c]
theorem far_XC (xsss : List (List (List Int))) : Far (XC xsss) := fun W W' lo hi v h hf hs => by
  obtain ⟨a, c, e, o⟩ := h
  exact ⟨a, c, e, far_Ows (good_TTT xsss) W W' lo hi _ o hf hs⟩
theorem shape_XC {xsss : List (List (List Int))} (W : World) (lo hi : Nat) (g : Array Value) (h : XC xsss W lo hi g) : ∃ a c, g = #[.slice a xsss.length c] := by
  obtain ⟨a, c, e, o⟩ := h
  exact ⟨a, c, e⟩
theorem Ows.rowT {xsss : List (List (List Int))} {W : World} {lo hi : Nat} {v : Value} (h : Ows (TTT xsss) W lo hi [v]) : RowT W v xsss := by
  obtain ⟨_, B, hT, _⟩ := h
  exact TTT.rowT hT
theorem kc_sz (xsss : List (List (List Int))) (v : Value) (left : Int) (w : World) (hv : RowT w v xsss) (hl : xsss.length ≤ 9223372036854775807) (hr : ∀ r ∈ xsss, r.length ≤ 9223372036854775807 ∧ ∀ q ∈ r, q.length ≤ 9223372036854775807) (h0 : 0 ≤ left) (h1 : left ≤ 1048576) :
    Calls Tryz.prog 7 #[.agg #[v], .int .i64 left] w fun e w' => e = .returned (.int .i64 (leftTT left xsss)) ∧ Old w w' := by
  have c := fun W (h : RowT W v xsss) => szIntSSS_any xsss v left W h hl hr h0 h1
  have HV : Hid (RowT w v xsss) := hv
  obtain ⟨a0, cap0, ev⟩ := hv.slice
  subst ev
  clear hv hr
  by_cases hz : leftTT left xsss < 0
  · rw [leftTT_neg h0 hz] at c ⊢
    clear hz
    go_enter Tryz.func7, Tryz.ntmps7
    go_wp2_with fail
    refine (c _ (HV.out.old ((Old.refl w).alloc _))).mono ?_
    rintro e w1 ⟨rfl, g1⟩
    have HG : Hid (Old w w1) := Old.trans ((Old.refl w).alloc _) g1
    clear g1
    go_wp2_with fail
    go_ret
    exact ⟨rfl, HG.out⟩
  · have d : decide (leftTT left xsss < 0) = false := decide_eq_false hz
    generalize leftTT left xsss = z at *
    go_enter Tryz.func7, Tryz.ntmps7
    go_wp2_with fail
    refine (c _ (HV.out.old ((Old.refl w).alloc _))).mono ?_
    rintro e w1 ⟨rfl, g1⟩
    have HG : Hid (Old w w1) := Old.trans ((Old.refl w).alloc _) g1
    clear g1
    go_wp2_with fail
    go_ret
    exact ⟨rfl, HG.out⟩
theorem Ows.putT {xsss : List (List (List Int))} {W : World} {lo hi k j : Nat} {v x : Value} (h : Ows (TTT xsss) W lo hi [v]) (hk : k < lo ∨ hi ≤ k) : Ows (TTT xsss) (W.setCell ⟨k, j, none⟩ x) lo hi [v] :=
  far_Ows (good_TTT xsss) W _ lo hi _ h (fun b h1 h2 => heap_setCell_other _ _ _ _ (by show b ≠ k; omega)) (by simp)
set_option maxHeartbeats 1000000 in
theorem kc_to (xsss : List (List (List Int))) (v : Value) (w : World) (h : RowT w v xsss) (hl : xsss.length ≤ 1048576) (hr : ∀ r ∈ xsss, r.length ≤ 1048576 ∧ ∀ q ∈ r, q.length ≤ 1048576) :
    Calls Tryz.prog 11 #[.agg #[v]] w fun e w' => ∃ g, e = .returned (.agg g) ∧ Old w w' ∧ XC xsss w' w.heap.size w'.heap.size g := by
  have HR : Hid (RowT w v xsss) := h
  have HRR : Hid (∀ r ∈ xsss, r.length ≤ 1048576 ∧ ∀ q ∈ r, q.length ≤ 1048576) := hr
  obtain ⟨a0, cap0, ev⟩ := h.slice
  subst ev
  clear h hr
  go_enter Tryz.func11, Tryz.ntmps11
  go_wp2_with fail
  refine (toIntSSS_any xsss _ _ (HR.out.old (((Old.refl w).alloc _).alloc _ |>.alloc _)) hl HRR.out).mono ?_
  rintro e w1 ⟨v1, rfl, g1, o1⟩
  obtain ⟨a1, c1, rfl⟩ : ∃ a c, v1 = .slice a xsss.length c := o1.rowT.slice
  have q20 : w1.cell? ⟨w.heap.size + 1 + 1, 0, none⟩ = some (Value.slice none 0 0) := (g1.cell (p := ⟨w.heap.size + 1 + 1, 0, none⟩) (by simp; try omega)).trans (by simp [cell_at, cell_lt, fro_at, fro_lt])
  have q10 : w1.cell? ⟨w.heap.size + 1, 0, none⟩ = some (Value.slice none 0 0) := (g1.cell (p := ⟨w.heap.size + 1, 0, none⟩) (by simp; try omega)).trans (by simp [cell_at, cell_lt, fro_at, fro_lt])
  have f20 : w1.frozen? ⟨w.heap.size + 1 + 1, 0, none⟩ = false := (g1.frozen (p := ⟨w.heap.size + 1 + 1, 0, none⟩) (by simp; try omega)).trans (by simp [cell_at, cell_lt, fro_at, fro_lt])
  have f10 : w1.frozen? ⟨w.heap.size + 1, 0, none⟩ = false := (g1.frozen (p := ⟨w.heap.size + 1, 0, none⟩) (by simp; try omega)).trans (by simp [cell_at, cell_lt, fro_at, fro_lt])
  have HG : Hid (Old w w1) := Old.trans (((Old.refl w).alloc _).alloc _ |>.alloc _) g1
  have HO : Hid (Ows (TTT xsss) w1 (w.heap.size + 1 + 1 + 1) w1.heap.size [.slice a1 xsss.length c1]) := by
    have := o1
    simp at this
    exact this
  clear g1 o1 HR
  go_wp2_with fail
  refine bodyPost_ret (v := .agg #[.slice a1 xsss.length c1]) (by simp [results, Tryz.results11, go_sem, q10]) rfl ⟨_, rfl, ?_, a1, c1, rfl, ?_⟩
  · exact (HG.out.own (p := ⟨w.heap.size + 1 + 1, 0, none⟩) (by simp; omega) _).own (p := ⟨w.heap.size + 1, 0, none⟩) (by simp) _
  · have h2 := (HO.out.putT (k := w.heap.size + 1 + 1) (j := 0) (x := .slice a1 xsss.length c1) (by omega)).putT (k := w.heap.size + 1) (j := 0) (x := .slice a1 xsss.length c1) (by omega)
    exact h2.low (lo' := w.heap.size) (by omega) (by simp) (Nat.le_refl _)
end Go.Proofs.YtanijpekdnkicaaGreatDoor
/- Proved: ciphers as a law carries them: marks, and marks that are held still. -/
namespace Go.Proofs.YtanijpekdnkicaaGreatDoor
open Go.ChangeShapes Go.WideShapes Go.ChangeAt Go.RowKit
set_option linter.unusedVariables false
set_option linter.unusedSimpArgs false
def mkSS : Int → List (List Int) → List (List Int)
  | _, [] => []
  | k, r :: rs => marks k r.length :: mkSS (k + r.length) rs
theorem mkSS_len : ∀ (xss : List (List Int)) (k : Int), (mkSS k xss).length = xss.length
  | [], k => rfl
  | r :: rs, k => by
    show (mkSS (k + r.length) rs).length + 1 = rs.length + 1
    rw [mkSS_len rs]
theorem mkSS_get : ∀ (xss : List (List Int)) (k : Int) (j : Nat), j < xss.length → (mkSS k xss).getD j [] = marks (k + offL xss j) (xss.getD j []).length
  | [], k, j, h => by simp at h
  | r :: rs, k, 0, h => by
    show marks k r.length = marks (k + ((offL (r :: rs) 0 : Nat) : Int)) _
    rw [offL_zero]
    simp
  | r :: rs, k, j + 1, h => by
    have := mkSS_get rs (k + r.length) j (by simpa using h)
    show (mkSS (k + r.length) rs).getD j [] = marks (k + ((r.length + offL rs j : Nat) : Int)) (rs.getD j []).length
    rw [this]
    congr 1
    omega
def mkT : Int → List (List (List Int)) → List (List (List Int))
  | _, [] => []
  | k, r :: rs => mkSS k r :: mkT (k + offL r r.length) rs
theorem mkT_len : ∀ (xsss : List (List (List Int))) (k : Int), (mkT k xsss).length = xsss.length
  | [], k => rfl
  | r :: rs, k => by
    show (mkT (k + offL r r.length) rs).length + 1 = rs.length + 1
    rw [mkT_len rs]
theorem mkT_get : ∀ (xsss : List (List (List Int))) (k : Int) (j : Nat), j < xsss.length → (mkT k xsss).getD j [] = mkSS (k + offT xsss j) (xsss.getD j [])
  | [], k, j, h => by simp at h
  | r :: rs, k, 0, h => by
    show mkSS k r = mkSS (k + ((offT (r :: rs) 0 : Nat) : Int)) _
    rw [offT_zero]
    simp
  | r :: rs, k, j + 1, h => by
    have := mkT_get rs (k + offL r r.length) j (by simpa using h)
    show (mkT (k + offL r r.length) rs).getD j [] = mkSS (k + ((offL r r.length + offT rs j : Nat) : Int)) (rs.getD j [])
    rw [this]
    congr 1
    omega
structure ChB (w w' : World) (B : Nat → Prop) : Prop where
  os : w'.os = w.os
  tape : w'.tape = w.tape
  output : w'.output = w.output
  size : w.heap.size ≤ w'.heap.size
  block : ∀ b, b < w.heap.size → ¬ B b → w'.heap[b]? = w.heap[b]?
theorem ChB.refl (w : World) (B : Nat → Prop) : ChB w w B := ⟨rfl, rfl, rfl, Nat.le_refl _, fun _ _ _ => rfl⟩
theorem ChB.trans {a b c : World} {B : Nat → Prop} (h : ChB a b B) (k : ChB b c B) : ChB a c B :=
  ⟨k.os.trans h.os, k.tape.trans h.tape, k.output.trans h.output, Nat.le_trans h.size k.size, fun i hi ho => (k.block i (Nat.lt_of_lt_of_le hi h.size) ho).trans (h.block i hi ho)⟩
theorem ChB.sub {w w' : World} {B C : Nat → Prop} (h : ChB w w' B) (hs : ∀ b, B b → C b) : ChB w w' C :=
  ⟨h.os, h.tape, h.output, h.size, fun b hb hn => h.block b hb (fun hx => hn (hs b hx))⟩
theorem ChB.chg {w w' : World} {B : Nat → Prop} {lo hi : Nat} (h : ChB w w' B) (hb : ∀ b, B b → lo ≤ b ∧ b < hi) : Chg w w' lo hi :=
  ⟨h.os, h.tape, h.output, h.size, fun b hl ho => h.block b hl (fun hx => by have := hb b hx; omega)⟩
theorem ChB.by_ {w w' : World} {B : Nat → Prop} {ob : Option Nat} (g : w.grownBy w' ob) (hb : ∀ b, ob = some b → B b) : ChB w w' B :=
  ⟨g.os, g.tape, g.output, g.size, fun b hl ho => g.block b hl (fun h => ho (hb b h.symm))⟩
set_option maxRecDepth 100000 in
set_option maxHeartbeats 4000000 in
theorem markIntSS_B (xss : List (List Int)) (v : Value) (k : Int) (B : Nat → Prop) (w : World) (hv : TSS xss w B [v]) (hl : xss.length ≤ 1048576) (hr : ∀ r ∈ xss, r.length ≤ 1048576) (hk : 0 ≤ k) (hs : k + (offL xss xss.length : Int) ≤ 1073741824) :
    Calls Tryz.prog 52 #[v, .int .i64 k] w fun e w' => e = .returned (.int .i64 (k + offL xss xss.length)) ∧ ChB w w' B ∧ TSS (mkSS k xss) w' B [v] := by
  rcases Nat.eq_zero_or_pos xss.length with h0 | h0
  · obtain rfl := List.length_eq_zero_iff.1 h0
    have HF : Hid (TSS (mkSS k []) w B [v]) := hv
    obtain ⟨a, c, rfl⟩ := TSS.slice hv
    clear hv h0
    go_enter Tryz.func52, Tryz.ntmps52
    go_wp2_with fail
    go_loopw [5, 1] (fun i l W => i = .int .i64 0 ∧ l = .int .i64 k ∧ W = w) (fun _ _ _ => 0)
    case atStart => exact ⟨rfl, rfl, rfl⟩
    case round =>
      obtain ⟨rfl, rfl, hW⟩ := hrel
      obtain rfl : w = wr := hW.symm
      go_wp2_with fail
      go_ret
      exact ⟨by simp [offL], ChB.refl w B, HF.out⟩
  rcases hv with ⟨h1, _, _⟩ | ⟨p, cap, vs, Bs, e, hc, hb⟩
  · omega
  simp at e
  subst e
  have HR : Hid (∀ r ∈ xss, r.length ≤ 1048576) := hr
  have HS : Hid (k + (offL xss xss.length : Int) ≤ 1073741824) := hs
  have HBB : Hid (∀ j b, j < xss.length → Bs j b → B b) := fun j b hj h => (hb b).2 (.inr ⟨j, hj, h⟩)
  have HI : Hid (TSc 22 1 xss.length xss.length (fun q => if q < 0 then TI (marks (k + offL xss q) (xss.getD q []).length) else TI (xss.getD q [])) w p cap vs Bs) := hc.ext (fun j _ => by simp)
  have HF : Hid (∀ w', TSc 22 1 xss.length xss.length (fun q => if q < xss.length then TI (marks (k + offL xss q) (xss.getD q []).length) else TI (xss.getD q [])) w' p cap vs Bs → TSS (mkSS k xss) w' B [.slice (some ⟨p, 0, none⟩) xss.length cap]) := fun w' h => by
    refine .inr ⟨p, cap, vs, Bs, by rw [mkSS_len], ?_, fun b => by rw [mkSS_len]; exact hb b⟩
    rw [mkSS_len]
    exact h.ext (fun j hj => by simp only [hj, if_true]; rw [mkSS_get xss k j hj])
  have HGD : Hid (∀ n j, GoodT (if j < n then TI (marks (k + offL xss j) (xss.getD j []).length) else TI (xss.getD j []))) := fun n j => by
    split
    · exact good_TI _
    · exact good_TI _
  have HC0 : Hid (ChB w w B) := ChB.refl w B
  clear hc hb hr hs
  go_enter Tryz.func52, Tryz.ntmps52
  go_wp2_with fail
  go_loopw [5, 1] (fun i l W => ∃ j : Nat, j ≤ xss.length ∧ i = .int .i64 j ∧ l = .int .i64 (k + offL xss j) ∧ Hid (TSc 22 1 xss.length xss.length (fun q => if q < j then TI (marks (k + offL xss q) (xss.getD q []).length) else TI (xss.getD q [])) W p cap vs Bs) ∧ Hid (ChB w W B)) (fun i _ _ => xss.length - (intOf i).toNat)
  case atStart => exact ⟨0, by omega, rfl, by rw [offL_zero]; simp, HI, HC0⟩
  case round =>
    obtain ⟨j, hj, rfl, rfl, H1, HC⟩ := hrel
    clear HI HC0
    by_cases hlt : j < xss.length
    · have d1 : decide ((j : Int) < (xss.length : Int)) = true := by simp; omega
      have hvl : vs.length = xss.length := by have := H1.out.row.1; omega
      have hel := H1.out.el j hlt
      simp only [Nat.lt_irrefl, if_false] at hel
      rw [one_get (by omega)] at hel
      obtain ⟨a', c', ex⟩ := hel.slice
      have hfit : (xss.getD j []).length ≤ c' := by
        obtain ⟨a3, c3, e3, _, f3, _⟩ := hel
        simp at e3
        rw [ex] at e3
        simp at e3
        rw [e3.2]
        exact f3
      rw [ex] at hel
      have hbl : ∀ b, Bs j b ↔ (Value.slice a' (xss.getD j []).length c').ownBlock = some b := hel.blocks
      have q1 : wr.cell? ⟨p, j, none⟩ = some (.slice a' (xss.getD j []).length c') := by
        rw [World.ownsRow.cellAt H1.out.row j (by omega), ← ex]
        exact List.getElem?_eq_getElem _
      have hm : xss.getD j [] ∈ xss := by simp [List.getD, hlt]
      have hrl := HR.out _ hm
      have hoj := offL_le xss (j + 1)
      have hos := offL_succ xss j hlt
      have hsum := HS.out
      have hkb : 0 ≤ k + (offL xss j : Int) ∧ k + (offL xss j : Int) ≤ 1073741824 := by omega
      have HN4 : Hid (k + (offL xss (j + 1) : Int) = k + (offL xss j : Int) + ((xss.getD j []).length : Int)) := by show _ = _; rw [hos]; omega
      have HX : Hid (∀ w2, wr.grownBy w2 (Value.slice a' (xss.getD j []).length c').ownBlock → Own w2 0 (.slice a' (xss.getD j []).length c') (marks (k + offL xss j) (xss.getD j []).length) → ChB w w2 B ∧ TSc 22 1 xss.length xss.length (fun q => if q < j + 1 then TI (marks (k + offL xss q) (xss.getD q []).length) else TI (xss.getD q [])) w2 p cap vs Bs) := fun w2 gr o => by
        refine ⟨HC.out.trans (ChB.by_ gr (fun b hb => HBB.out j b hlt ((hbl b).2 hb))), (H1.out.sub (HGD.out j) j hlt (E' := TI (marks (k + offL xss j) (xss.getD j []).length)) (fun b h1 h2 => gr.block b h1 (fun e => h2 ((hbl b).2 e.symm))) ?_).ext (fun q hq => ?_)⟩
        · rw [one_get (by omega), ex]
          refine ⟨a', c', by rw [marks_len], ?_, ?_, ?_⟩
          · rw [marks_len]
            exact o
          · rw [marks_len]
            exact hfit
          · rw [marks_len]
            exact hbl
        · by_cases h1 : q = j
          · subst h1
            simp
          · by_cases h2 : q < j
            · have h3 : q < j + 1 := by omega
              simp [h1, h2, h3]
            · have h3 : ¬ q < j + 1 := by omega
              simp [h1, h2, h3]
      have HOI : Hid (Own wr 0 (.slice a' (xss.getD j []).length c') (xss.getD j [])) := hel.own (fun b _ => Nat.zero_le _)
      clear hel ex hbl hfit H1 hos hoj hsum hm hvl
      generalize hnn : (offL xss (j + 1)) = nxt at *
      generalize (offL xss j : Nat) = off at *
      generalize xss.getD j [] = xs at *
      have cm := fun W (h : Own W 0 (.slice a' xs.length c') xs) => markInts_any xs _ (k + off) 0 W h (by omega) (by omega) (by omega)
      go_wp2_with fail
      refine (cm _ HOI.out).mono ?_
      rintro e w2 ⟨rfl, g2, o2⟩
      obtain ⟨n1, n2⟩ := HX.out w2 g2 o2
      have N1 : Hid (ChB w w2 B) := n1
      have N2 : Hid (TSc 22 1 xss.length xss.length (fun q => if q < j + 1 then TI (marks (k + offL xss q) (xss.getD q []).length) else TI (xss.getD q [])) w2 p cap vs Bs) := n2
      clear n1 n2 g2 o2 cm HX HOI
      go_wp2_with fail
      refine ⟨⟨j + 1, by omega, by go_num, ?_, N2, N1⟩, by simp [intOf]; omega⟩
      rw [hnn, HN4.out]
    · have d1 : decide ((j : Int) < (xss.length : Int)) = false := by simp; omega
      obtain rfl : j = xss.length := by omega
      have HE : Hid (TSS (mkSS k xss) wr B [.slice (some ⟨p, 0, none⟩) xss.length cap]) := HF.out wr H1.out
      clear H1 HF
      go_wp2_with fail
      go_ret
      exact ⟨rfl, HC.out, HE.out⟩
set_option maxRecDepth 100000 in
set_option maxHeartbeats 4000000 in
theorem markIntSSS_B (xsss : List (List (List Int))) (v : Value) (k : Int) (B : Nat → Prop) (w : World) (hv : TTT xsss w B [v]) (hl : xsss.length ≤ 1048576) (hr : ∀ r ∈ xsss, r.length ≤ 1048576 ∧ ∀ q ∈ r, q.length ≤ 1048576) (hk : 0 ≤ k) (hs : k + (offT xsss xsss.length : Int) ≤ 1073741824) :
    Calls Tryz.prog 51 #[v, .int .i64 k] w fun e w' => e = .returned (.int .i64 (k + offT xsss xsss.length)) ∧ ChB w w' B ∧ TTT (mkT k xsss) w' B [v] := by
  rcases Nat.eq_zero_or_pos xsss.length with h0 | h0
  · obtain rfl := List.length_eq_zero_iff.1 h0
    have HF : Hid (TTT (mkT k []) w B [v]) := hv
    obtain ⟨a, c, rfl⟩ := (TTT.rowT hv).slice
    clear hv h0
    go_enter Tryz.func51, Tryz.ntmps51
    go_wp2_with fail
    go_loopw [5, 1] (fun i l W => i = .int .i64 0 ∧ l = .int .i64 k ∧ W = w) (fun _ _ _ => 0)
    case atStart => exact ⟨rfl, rfl, rfl⟩
    case round =>
      obtain ⟨rfl, rfl, hW⟩ := hrel
      obtain rfl : w = wr := hW.symm
      go_wp2_with fail
      go_ret
      exact ⟨by simp [offT], ChB.refl w B, HF.out⟩
  rcases hv with ⟨h1, _, _⟩ | ⟨p, cap, vs, Bs, e, hc, hb⟩
  · omega
  simp at e
  subst e
  have HR : Hid (∀ r ∈ xsss, r.length ≤ 1048576 ∧ ∀ q ∈ r, q.length ≤ 1048576) := hr
  have HS : Hid (k + (offT xsss xsss.length : Int) ≤ 1073741824) := hs
  have HBB : Hid (∀ j b, j < xsss.length → Bs j b → B b) := fun j b hj h => (hb b).2 (.inr ⟨j, hj, h⟩)
  have HI : Hid (TSc 69 1 xsss.length xsss.length (fun q => if q < 0 then TSS (mkSS (k + offT xsss q) (xsss.getD q [])) else TSS (xsss.getD q [])) w p cap vs Bs) := hc.ext (fun j _ => by simp)
  have HF : Hid (∀ w', TSc 69 1 xsss.length xsss.length (fun q => if q < xsss.length then TSS (mkSS (k + offT xsss q) (xsss.getD q [])) else TSS (xsss.getD q [])) w' p cap vs Bs → TTT (mkT k xsss) w' B [.slice (some ⟨p, 0, none⟩) xsss.length cap]) := fun w' h => by
    refine .inr ⟨p, cap, vs, Bs, by rw [mkT_len], ?_, fun b => by rw [mkT_len]; exact hb b⟩
    rw [mkT_len]
    exact h.ext (fun j hj => by simp only [hj, if_true]; rw [mkT_get xsss k j hj])
  have HGD : Hid (∀ n j, GoodT (if j < n then TSS (mkSS (k + offT xsss j) (xsss.getD j [])) else TSS (xsss.getD j []))) := fun n j => by
    split
    · exact good_TSS _
    · exact good_TSS _
  have HC0 : Hid (ChB w w B) := ChB.refl w B
  clear hc hb hr hs
  go_enter Tryz.func51, Tryz.ntmps51
  go_wp2_with fail
  go_loopw [5, 1] (fun i l W => ∃ j : Nat, j ≤ xsss.length ∧ i = .int .i64 j ∧ l = .int .i64 (k + offT xsss j) ∧ Hid (TSc 69 1 xsss.length xsss.length (fun q => if q < j then TSS (mkSS (k + offT xsss q) (xsss.getD q [])) else TSS (xsss.getD q [])) W p cap vs Bs) ∧ Hid (ChB w W B)) (fun i _ _ => xsss.length - (intOf i).toNat)
  case atStart => exact ⟨0, by omega, rfl, by rw [offT_zero]; simp, HI, HC0⟩
  case round =>
    obtain ⟨j, hj, rfl, rfl, H1, HC⟩ := hrel
    clear HI HC0
    by_cases hlt : j < xsss.length
    · have d1 : decide ((j : Int) < (xsss.length : Int)) = true := by simp; omega
      have hvl : vs.length = xsss.length := by have := H1.out.row.1; omega
      have hel := H1.out.el j hlt
      simp only [Nat.lt_irrefl, if_false] at hel
      rw [one_get (by omega)] at hel
      obtain ⟨a', c', ex⟩ := TSS.slice hel
      rw [ex] at hel
      have q1 : wr.cell? ⟨p, j, none⟩ = some (.slice a' (xsss.getD j []).length c') := by
        rw [World.ownsRow.cellAt H1.out.row j (by omega), ← ex]
        exact List.getElem?_eq_getElem _
      have hm : xsss.getD j [] ∈ xsss := by simp [List.getD, hlt]
      have hrl := HR.out _ hm
      have hoj := offT_le xsss (j + 1)
      have hos := offT_succ xsss j hlt
      have hsum := HS.out
      have hkb : 0 ≤ k + (offT xsss j : Int) ∧ k + (offT xsss j : Int) + (offL (xsss.getD j []) (xsss.getD j []).length : Int) ≤ 1073741824 := by omega
      have HN4 : Hid (k + (offT xsss (j + 1) : Int) = k + (offT xsss j : Int) + (offL (xsss.getD j []) (xsss.getD j []).length : Int)) := by show _ = _; rw [hos]; omega
      have HX : Hid (∀ w2, ChB wr w2 (Bs j) → TSS (mkSS (k + offT xsss j) (xsss.getD j [])) w2 (Bs j) [.slice a' (xsss.getD j []).length c'] → ChB w w2 B ∧ TSc 69 1 xsss.length xsss.length (fun q => if q < j + 1 then TSS (mkSS (k + offT xsss q) (xsss.getD q [])) else TSS (xsss.getD q [])) w2 p cap vs Bs) := fun w2 gr o => by
        refine ⟨HC.out.trans (gr.sub (fun b hb => HBB.out j b hlt hb)), (H1.out.sub (HGD.out j) j hlt (E' := TSS (mkSS (k + offT xsss j) (xsss.getD j []))) (fun b h1 h2 => gr.block b h1 h2) ?_).ext (fun q hq => ?_)⟩
        · rw [one_get (by omega), ex]
          exact o
        · by_cases h1 : q = j
          · subst h1
            simp
          · by_cases h2 : q < j
            · have h3 : q < j + 1 := by omega
              simp [h1, h2, h3]
            · have h3 : ¬ q < j + 1 := by omega
              simp [h1, h2, h3]
      have HOI : Hid (TSS (xsss.getD j []) wr (Bs j) [.slice a' (xsss.getD j []).length c']) := hel
      clear hel ex H1 hos hoj hsum hm hvl
      generalize hnn : (offT xsss (j + 1)) = nxt at *
      generalize (offT xsss j : Nat) = off at *
      generalize xsss.getD j [] = xss at *
      have cm := fun W (h : TSS xss W (Bs j) [.slice a' xss.length c']) => markIntSS_B xss _ (k + off) (Bs j) W h hrl.1 hrl.2 (by omega) (by omega)
      generalize offL xss xss.length = ol at *
      go_wp2_with fail
      refine (cm _ HOI.out).mono ?_
      rintro e w2 ⟨rfl, g2, o2⟩
      obtain ⟨n1, n2⟩ := HX.out w2 g2 o2
      have N1 : Hid (ChB w w2 B) := n1
      have N2 : Hid (TSc 69 1 xsss.length xsss.length (fun q => if q < j + 1 then TSS (mkSS (k + offT xsss q) (xsss.getD q [])) else TSS (xsss.getD q [])) w2 p cap vs Bs) := n2
      clear n1 n2 g2 o2 cm HX HOI
      go_wp2_with fail
      refine ⟨⟨j + 1, by omega, by go_num, ?_, N2, N1⟩, by simp [intOf]; omega⟩
      rw [hnn, HN4.out]
    · have d1 : decide ((j : Int) < (xsss.length : Int)) = false := by simp; omega
      obtain rfl : j = xsss.length := by omega
      have HE : Hid (TTT (mkT k xsss) wr B [.slice (some ⟨p, 0, none⟩) xsss.length cap]) := HF.out wr H1.out
      clear H1 HF
      go_wp2_with fail
      go_ret
      exact ⟨rfl, HC.out, HE.out⟩
def XCm (k : Int) (xsss : List (List (List Int))) (W : World) (lo hi : Nat) (g : Array Value) : Prop := ∃ a c, g = #[.slice a xsss.length c] ∧ Ows (TTT (mkT k xsss)) W lo hi [.slice a xsss.length c]
set_option maxHeartbeats 1000000 in
theorem kc_mark (xsss : List (List (List Int))) (k : Int) (w : World) (lo hi : Nat) (g : Array Value) (h : XC xsss w lo hi g) (hl : xsss.length ≤ 1048576) (hr : ∀ r ∈ xsss, r.length ≤ 1048576 ∧ ∀ q ∈ r, q.length ≤ 1048576) (hk : 0 ≤ k) (hs : k + (offT xsss xsss.length : Int) ≤ 1073741824) :
    Calls Tryz.prog 18 #[.agg g, .int .i64 k] w fun e w' => e = .returned (.int .i64 (k + offT xsss xsss.length)) ∧ Chg w w' lo hi ∧ XCm k xsss w' lo hi g := by
  obtain ⟨a0, cap0, rfl, hh, B, hT, hB⟩ := h
  have HO : Hid (TTT xsss (w.alloc (.cells #[.slice a0 xsss.length cap0] 32)) B [.slice a0 xsss.length cap0]) := (good_TTT xsss).far hT (fun b hb => ((Old.refl w).alloc _).block b ((good_TTT xsss).lt hT b hb))
  have HA : Hid (Chg w (w.alloc (.cells #[.slice a0 xsss.length cap0] 32)) lo hi) := ((Old.refl w).alloc _).toChg lo hi
  have HR : Hid (∀ r ∈ xsss, r.length ≤ 1048576 ∧ ∀ q ∈ r, q.length ≤ 1048576) := hr
  have HS : Hid (k + (offT xsss xsss.length : Int) ≤ 1073741824) := hs
  have HB : Hid (∀ b, B b → lo ≤ b ∧ b < hi) := hB
  clear hT hr hs hB
  go_enter Tryz.func18, Tryz.ntmps18
  go_wp2_with fail
  refine (markIntSSS_B xsss _ k B _ HO.out hl HR.out hk HS.out).mono ?_
  rintro e w1 ⟨rfl, g1, o1⟩
  have HG : Hid (Chg w w1 lo hi) := Chg.trans HA.out (g1.chg HB.out)
  have HM : Hid (XCm k xsss w1 lo hi #[.slice a0 xsss.length cap0]) := ⟨a0, cap0, rfl, Nat.le_trans hh HG.out.size, B, o1, HB.out⟩
  clear g1 o1
  go_wp2_with fail
  go_ret
  exact ⟨rfl, HG.out, HM.out⟩
end Go.Proofs.YtanijpekdnkicaaGreatDoor
/- Proved: slices of whole numbers as a law carries them: comparisons and copies. -/
namespace Go.Proofs.YtanijpekdnkicaaGreatDoor
open Go.ChangeShapes Go.WideShapes Go.ChangeAt Go.RowKit
set_option linter.unusedVariables false
set_option linter.unusedSimpArgs false
theorem cells_two {m k : Nat} {vs : List Value} (h : vs.length = m * 2) (hk : k < m) (x y : Value) : cellsJ 2 ((vs.set (k * 2 + 0) x).set (k * 2 + 1) y) k = [x, y] := by
  have hl := cellsJ_len (n := 2) h k hk
  rw [cellsJ_set 2 _ k 1 k y (by omega), if_pos rfl, cellsJ_set 2 _ k 0 k x (by omega), if_pos rfl]
  match cellsJ 2 vs k, hl with
  | [a, b], _ => rfl
theorem TSc.store2 {T : TypeId} {m k : Nat} {Es : Nat → Thing} {W : World} {p cap : Nat} {vs : List Value} {Bs : Nat → Nat → Prop} {B : Nat → Prop} (g : ∀ j, GoodT (Es j)) (h : TSc T 2 m k Es W p cap vs Bs) (hk : k < m) (x y : Value)
    (he : ∀ W' : World, (∀ b, b ≠ p → W'.heap[b]? = W.heap[b]?) → Es k W' B [x, y]) (hp : ¬ B p) (hd : ∀ j, j < k → ∀ b, Bs j b → B b → False) :
    ∃ vs', TSc T 2 m (k + 1) Es ((W.setCell ⟨p, k * 2, none⟩ x).setCell ⟨p, k * 2 + 1, none⟩ y) p cap vs' (fun q => if q = k then B else Bs q) := by
  have h1 := h.fill g 0 (by omega) x
  have h2 := h1.fill g 1 (by omega) y
  refine ⟨_, h2.more (B := B) ?_ hp hd⟩
  rw [cells_two h.row.1 hk x y]
  refine he _ (fun b hb => ?_)
  rw [heap_setCell_other _ _ _ _ hb]
  exact heap_setCell_other _ _ _ _ hb
end Go.Proofs.YtanijpekdnkicaaGreatDoor
/- Proved: slices of pairs of rows as a law carries them: sizes, copies, comparisons, marks. -/
namespace Go.Proofs.YtanijpekdnkicaaGreatDoor
open Go.ChangeShapes Go.WideShapes Go.ChangeAt Go.RowKit
set_option linter.unusedVariables false
set_option linter.unusedSimpArgs false
abbrev PrV := List (List Int) × List (List Int)
abbrev pk (kss : List PrV) (j : Nat) : PrV := kss.getD j ([], [])
def RowK (w : World) (v : Value) (kss : List PrV) : Prop :=
  (∃ a cap, v = .slice a 0 cap ∧ kss = []) ∨ ∃ b o cap, ∃ us vs : Nat → Value, v = .slice (some ⟨b, o, none⟩) kss.length cap ∧ b < w.heap.size ∧ 0 < kss.length ∧ ∀ j, j < kss.length → w.cell? ⟨b, o + j * 2, none⟩ = some (us j) ∧ w.cell? ⟨b, o + j * 2 + 1, none⟩ = some (vs j) ∧ RowS w (us j) (pk kss j).1 ∧ RowS w (vs j) (pk kss j).2
theorem RowK.old {w w' : World} {v : Value} {kss : List PrV} (h : RowK w v kss) (g : Old w w') : RowK w' v kss := by
  rcases h with h1 | ⟨b, o, cap, us, vs, e, hb, h0, hc⟩
  · exact Or.inl h1
  · exact Or.inr ⟨b, o, cap, us, vs, e, Nat.lt_of_lt_of_le hb g.size, h0, fun j hj => ⟨(g.cell (p := ⟨b, o + j * 2, none⟩) hb).trans (hc j hj).1, (g.cell (p := ⟨b, o + j * 2 + 1, none⟩) hb).trans (hc j hj).2.1, (hc j hj).2.2.1.old g, (hc j hj).2.2.2.old g⟩⟩
theorem RowK.slice {w : World} {v : Value} {kss : List PrV} (h : RowK w v kss) : ∃ a cap, v = .slice a kss.length cap := by
  rcases h with ⟨a, cap, e, e2⟩ | ⟨b, o, cap, us, vs, e, _⟩
  · exact ⟨a, cap, by rw [e, e2]; rfl⟩
  · exact ⟨_, cap, e⟩
def offP (r : PrV) : Nat := offL r.1 r.1.length + offL r.2 r.2.length
def offK : List PrV → Nat → Nat
  | [], _ => 0
  | _ :: _, 0 => 0
  | r :: rs, j + 1 => offP r + offK rs j
theorem offK_zero (kss : List PrV) : offK kss 0 = 0 := by cases kss <;> rfl
theorem offK_succ : ∀ (kss : List PrV) (j : Nat), j < kss.length → offK kss (j + 1) = offK kss j + offP (pk kss j)
  | [], j, h => by simp at h
  | r :: rs, 0, h => by
    show offP r + offK rs 0 = 0 + _
    rw [offK_zero]
    simp
  | r :: rs, j + 1, h => by
    have := offK_succ rs j (by simpa using h)
    show offP r + offK rs (j + 1) = offP r + offK rs j + _
    rw [this]
    simp [List.getD]
    omega
theorem offK_le : ∀ (kss : List PrV) (j : Nat), offK kss j ≤ offK kss kss.length
  | [], j => by simp [offK]
  | r :: rs, 0 => by simp [offK]
  | r :: rs, j + 1 => by
    have := offK_le rs j
    show offP r + offK rs j ≤ offP r + offK rs rs.length
    omega
def leftK : Int → List PrV → Int
  | left, [] => left
  | left, r :: rs => if leftPr left r.1 r.2 < 0 then -1 else leftK (leftPr left r.1 r.2) rs
def leftKK (left : Int) (kss : List PrV) : Int := if left < (kss.length : Int) then -1 else leftK (left - kss.length) kss
def PrLe (m : Int) (r : PrV) : Prop := ((r.1.length : Int) ≤ m ∧ ∀ q ∈ r.1, (q.length : Int) ≤ m) ∧ (r.2.length : Int) ≤ m ∧ ∀ q ∈ r.2, (q.length : Int) ≤ m
theorem leftPr_all {xss yss : List (List Int)} {left : Int} (h0 : 0 ≤ left) (h : ¬ leftPr left xss yss < 0) : 0 ≤ leftPr left xss yss ∧ leftPr left xss yss + (offP (xss, yss) : Int) ≤ left ∧ PrLe left (xss, yss) := by
  obtain ⟨p1, p2, p3, p4⟩ := leftPr_ok h0 h
  obtain ⟨r1, r2, r3, r4⟩ := leftSS_ok h0 p1
  obtain ⟨s1, s2, s3, s4⟩ := leftSS_ok p2 p4
  have t1 := leftSS_sum h0 p1
  have t2 := leftSS_sum p2 p4
  rw [p3]
  show _ ∧ _ + (((offL xss xss.length + offL yss yss.length : Nat)) : Int) ≤ left ∧ _
  refine ⟨s1, by omega, ⟨r3, r4⟩, by show (yss.length : Int) ≤ left; omega, fun q hq => by have := s4 q hq; omega⟩
theorem leftK_ok : ∀ (kss : List PrV) (left : Int), 0 ≤ left → ¬ leftK left kss < 0 → 0 ≤ leftK left kss ∧ leftK left kss ≤ left ∧ (offK kss kss.length : Int) ≤ left ∧ ∀ r ∈ kss, PrLe left r
  | [], left, h0, h => ⟨h0, Int.le_refl _, by simpa [offK] using h0, by simp⟩
  | r :: rs, left, h0, h => by
    unfold leftK at h ⊢
    by_cases hr : leftPr left r.1 r.2 < 0
    · rw [if_pos hr] at h
      omega
    · rw [if_neg hr] at h ⊢
      obtain ⟨q1, q2, q3⟩ := leftPr_all h0 hr
      obtain ⟨p1, p2, p3, p4⟩ := leftK_ok rs _ q1 h
      refine ⟨p1, by omega, ?_, fun x hx => ?_⟩
      · show ((offP r + offK rs rs.length : Nat) : Int) ≤ left
        have : offP (r.1, r.2) = offP r := rfl
        omega
      · rcases List.mem_cons.1 hx with rfl | hx
        · exact q3
        · obtain ⟨⟨e1, e2⟩, e3, e4⟩ := p4 x hx
          exact ⟨⟨by omega, fun q hq => by have := e2 q hq; omega⟩, by omega, fun q hq => by have := e4 q hq; omega⟩
theorem leftKK_ok {kss : List PrV} {left : Int} (h0 : 0 ≤ left) (h : ¬ leftKK left kss < 0) : 0 ≤ leftKK left kss ∧ leftKK left kss ≤ left ∧ (kss.length : Int) ≤ left ∧ (offK kss kss.length : Int) ≤ left ∧ ∀ r ∈ kss, PrLe left r := by
  unfold leftKK at h ⊢
  by_cases hr : left < (kss.length : Int)
  · rw [if_pos hr] at h
    omega
  · rw [if_neg hr] at h ⊢
    obtain ⟨p1, p2, p3, p4⟩ := leftK_ok kss _ (by omega) h
    exact ⟨p1, by omega, by omega, by omega, fun r hr => by
      obtain ⟨⟨e1, e2⟩, e3, e4⟩ := p4 r hr
      exact ⟨⟨by omega, fun q hq => by have := e2 q hq; omega⟩, by omega, fun q hq => by have := e4 q hq; omega⟩⟩
theorem leftPr_neg {left : Int} {xss yss : List (List Int)} (h0 : 0 ≤ left) (h : leftPr left xss yss < 0) : leftPr left xss yss = -1 := by
  unfold leftPr at h ⊢
  by_cases hx : leftSS left xss < 0
  · rw [if_pos hx]
  · rw [if_neg hx] at h ⊢
    exact leftSS_neg (by omega) h
theorem drop_consK (kss : List PrV) (k : Nat) (h : k < kss.length) : kss.drop k = pk kss k :: kss.drop (k + 1) := by
  rw [List.drop_eq_getElem_cons h]
  simp [pk, List.getD, h]
set_option maxRecDepth 100000 in
set_option maxHeartbeats 2000000 in
theorem szPairS_any (kss : List PrV) (v : Value) (left : Int) (w : World) (hv : RowK w v kss) (hl : kss.length ≤ 9223372036854775807) (hr : ∀ r ∈ kss, PrLe 9223372036854775807 r) (h0 : 0 ≤ left) (h1 : left ≤ 1048576) :
    Calls Tryz.prog 8 #[v, .int .i64 left] w fun e w' => e = .returned (.int .i64 (leftKK left kss)) ∧ Old w w' := by
  obtain ⟨a0, cap0, ev⟩ := hv.slice
  subst ev
  by_cases hb : left < (kss.length : Int)
  · have d : decide (left - (kss.length : Int) < 0) = true := by simp; omega
    have HB : Hid (leftKK left kss = -1) := by show _ = _; unfold leftKK; rw [if_pos hb]
    clear hv hr hb
    go_enter Tryz.func8, Tryz.ntmps8
    go_wp2_with fail
    go_ret
    exact ⟨ret_ii HB.out.symm, Old.refl _⟩
  · have d : decide (left - (kss.length : Int) < 0) = false := by simp; omega
    have HB : Hid (leftK (left - kss.length) (kss.drop 0) = leftKK left kss) := by show _ = _; unfold leftKK; rw [if_neg hb]; rfl
    have hl2 : 0 ≤ left - (kss.length : Int) ∧ left - (kss.length : Int) ≤ 1048576 := by omega
    generalize leftKK left kss = R at *
    have HR := hidK hr
    have HV : Hid (RowK w (.slice a0 kss.length cap0) kss) := hv
    clear hv hr
    go_enter Tryz.func8, Tryz.ntmps8
    go_wp2_with fail
    go_loopw [5, 1] (fun i l W => ∃ (k : Nat) (z : Int), k ≤ kss.length ∧ i = .int .i64 k ∧ l = .int .i64 z ∧ 0 ≤ z ∧ z ≤ 1048576 ∧ Hid (leftK z (kss.drop k) = R) ∧ Hid (Old w W)) (fun i l _ => kss.length - (intOf i).toNat)
    case atStart => exact ⟨0, left - kss.length, by omega, rfl, rfl, by omega, by omega, HB, Old.refl _⟩
    case round =>
      obtain ⟨k, z, hk, rfl, rfl, z0, z1, H1, HG⟩ := hrel
      clear HB d
      by_cases hlt : k < kss.length
      · have d1 : decide ((k : Int) < (kss.length : Int)) = true := by simp; omega
        rcases HV.out with ⟨a, cap, e, e2⟩ | ⟨b, o, cap, us, vs, e, hb2, h3, hc⟩
        · subst e2
          simp at hlt
        simp only [Value.slice.injEq, true_and] at e
        obtain ⟨rfl, rfl⟩ := e
        obtain ⟨c1, c2, r1, r2⟩ := hc k hlt
        obtain ⟨a1, cap1, e1⟩ := r1.slice
        obtain ⟨a2, cap2, e2⟩ := r2.slice
        rw [e1] at c1 r1
        rw [e2] at c2 r2
        have q1 := (HG.out.cell (p := ⟨b, o + k * 2, none⟩) hb2).trans c1
        have q2 := (HG.out.cell (p := ⟨b, o + k * 2 + 1, none⟩) hb2).trans c2
        have R1 := hidK (r1.old HG.out)
        have R2 := hidK (r2.old HG.out)
        have hm : pk kss k ∈ kss := by simp [pk, List.getD, hlt]
        have hrl := hidK (HR.out _ hm)
        have H2 : Hid ((if leftPr z (pk kss k).1 (pk kss k).2 < 0 then -1 else leftK (leftPr z (pk kss k).1 (pk kss k).2) (kss.drop (k + 1))) = R) := by
          have := H1.out
          rw [drop_consK kss k hlt] at this
          unfold leftK at this
          exact this
        clear hc c1 c2 r1 r2 e1 e2 H1 hm
        generalize pk kss k = q at *
        obtain ⟨xss, yss⟩ := q
        have cz := hidK (kpr_sz xss yss (.slice a1 xss.length cap1) (.slice a2 yss.length cap2) z wr R1.out R2.out (by have : ((xss.length : Nat) : Int) ≤ 9223372036854775807 := hrl.out.1.1; omega) (fun r hr => by have : ((r.length : Nat) : Int) ≤ 9223372036854775807 := hrl.out.1.2 r hr; omega) (by have : ((yss.length : Nat) : Int) ≤ 9223372036854775807 := hrl.out.2.1; omega) (fun r hr => by have : ((r.length : Nat) : Int) ≤ 9223372036854775807 := hrl.out.2.2 r hr; omega) z0 z1)
        by_cases hz : leftPr z xss yss < 0
        · have H3 : Hid (-1 = R) := by have := H2.out; rw [if_pos hz] at this; exact this
          rw [leftPr_neg z0 hz] at cz
          clear H2 hz
          go_wp2_with fail
          refine cz.out.mono ?_
          rintro e w1 ⟨rfl, g1⟩
          have HG2 : Hid (Old w w1) := Old.trans HG.out g1
          clear g1 cz
          go_wp2_with fail
          go_ret
          exact ⟨ret_ii H3.out, HG2.out⟩
        · have H3 : Hid (leftK (leftPr z xss yss) (kss.drop (k + 1)) = R) := by have := H2.out; rw [if_neg hz] at this; exact this
          obtain ⟨q3, q4, _⟩ := leftPr_all z0 hz
          have d2 : decide (leftPr z xss yss < 0) = false := decide_eq_false hz
          have q5 : leftPr z xss yss ≤ z := by omega
          clear H2 hz q4
          generalize leftPr z xss yss = z2 at *
          go_wp2_with fail
          refine cz.out.mono ?_
          rintro e w1 ⟨rfl, g1⟩
          have HG2 : Hid (Old w w1) := Old.trans HG.out g1
          clear g1 cz
          go_wp2_with fail
          exact ⟨⟨k + 1, z2, by omega, by go_num, rfl, by omega, by omega, H3, HG2⟩, by simp [intOf]; omega⟩
      · have d1 : decide ((k : Int) < (kss.length : Int)) = false := by simp; omega
        have H2 : Hid (z = R) := by
          have := H1.out
          rw [List.drop_eq_nil_of_le (by omega)] at this
          unfold leftK at this
          exact this
        clear H1
        go_wp2_with fail
        go_ret
        exact ⟨ret_ii H2.out, HG.out⟩
abbrev elK (kss : List PrV) : Nat → Thing := fun j => TP (TSS (pk kss j).1) (TSS (pk kss j).2)
abbrev TKS (kss : List PrV) : Thing := TS 77 2 kss.length (elK kss)
theorem good_elK (kss : List PrV) (j : Nat) : GoodT (elK kss j) := good_TP (good_TSS _) (good_TSS _)
theorem good_TKS (kss : List PrV) : GoodT (TKS kss) := good_TS _ _ _ (good_elK kss)
theorem TKS.rowK {kss : List PrV} {W : World} {B : Nat → Prop} {v : Value} (h : TKS kss W B [v]) : RowK W v kss := by
  rcases h with ⟨h0, h1, _⟩ | ⟨p, cap, vs, Bs, e, hc, _⟩
  · simp at h1
    exact .inl ⟨none, 0, h1, List.length_eq_zero_iff.1 h0⟩
  · simp at e
    subst e
    rcases Nat.eq_zero_or_pos kss.length with h0 | h0
    · rw [h0]
      exact .inl ⟨_, _, rfl, List.length_eq_zero_iff.1 h0⟩
    · refine .inr ⟨p, 0, cap, fun j => (cellsJ 2 vs j).getD 0 (.slice none 0 0), fun j => (cellsJ 2 vs j).getD 1 (.slice none 0 0), rfl, ownsRow_lt hc.row, h0, fun j hj => ?_⟩
      obtain ⟨x, y, B1, B2, e, hE, hF, _⟩ := hc.el j hj
      have c0 := hc.cell j 0 hj (by omega)
      have c1 := hc.cell j 1 hj (by omega)
      rw [e] at c0 c1
      have ex : (cellsJ 2 vs j).getD 0 (.slice none 0 0) = x := by rw [e]; rfl
      have ey : (cellsJ 2 vs j).getD 1 (.slice none 0 0) = y := by rw [e]; rfl
      show W.cell? ⟨p, 0 + j * 2, none⟩ = some ((cellsJ 2 vs j).getD 0 (.slice none 0 0)) ∧ W.cell? ⟨p, 0 + j * 2 + 1, none⟩ = some ((cellsJ 2 vs j).getD 1 (.slice none 0 0)) ∧ RowS W ((cellsJ 2 vs j).getD 0 (.slice none 0 0)) _ ∧ RowS W ((cellsJ 2 vs j).getD 1 (.slice none 0 0)) _
      rw [ex, ey, Nat.zero_add]
      exact ⟨c0, c1, (TSS.whole hE).rowS, (TSS.whole hF).rowS⟩
theorem Ows.rowK {kss : List PrV} {W : World} {lo hi : Nat} {v : Value} (h : Ows (TKS kss) W lo hi [v]) : RowK W v kss := by
  obtain ⟨_, B, hT, _⟩ := h
  exact TKS.rowK hT
theorem XPr.tp {xss yss : List (List Int)} {W : World} {lo hi : Nat} {x y : Value} (h : XPr xss yss W lo hi #[x, y]) : ∃ B, TP (TSS xss) (TSS yss) W B [x, y] ∧ ∀ b, B b → lo ≤ b ∧ b < hi := by
  obtain ⟨a, c, a', c', M, e, h1, h2, o, o'⟩ := h
  obtain ⟨rfl, rfl⟩ : x = .slice a xss.length c ∧ y = .slice a' yss.length c' := by simpa using e
  obtain ⟨B1, t1, b1⟩ := o.tss
  obtain ⟨B2, t2, b2⟩ := o'.tss
  exact ⟨fun b => B1 b ∨ B2 b, ⟨_, _, B1, B2, rfl, t1, t2, fun b => Iff.rfl, fun b q1 q2 => by have := b1 b q1; have := b2 b q2; omega⟩, fun b hb => by
    rcases hb with hb | hb
    · have := b1 b hb
      omega
    · have := b2 b hb
      omega⟩
set_option maxRecDepth 100000 in
set_option maxHeartbeats 4000000 in
theorem eqPairS_yes (kss : List PrV) (v u : Value) (w : World) (hv : RowK w v kss) (hu : RowK w u kss) (hl : kss.length ≤ 1048576) (hr : ∀ r ∈ kss, PrLe 1048576 r) :
    Calls Tryz.prog 16 #[v, u] w fun e w' => e = .returned (.bool true) ∧ Old w w' := by
  obtain ⟨a0, cap0, ev⟩ := hv.slice
  obtain ⟨a1, cap1, eu⟩ := hu.slice
  subst ev eu
  have HR := hidK hr
  have HV : Hid (RowK w (.slice a0 kss.length cap0) kss) := hv
  have HU : Hid (RowK w (.slice a1 kss.length cap1) kss) := hu
  have dn : ((kss.length : Int) != (kss.length : Int)) = false := by simp
  clear hv hu hr
  go_enter Tryz.func16, Tryz.ntmps16
  go_wp2_with fail
  go_loopw [5] (fun i W => ∃ k : Nat, k ≤ kss.length ∧ i = .int .i64 k ∧ Hid (Old w W)) (fun i _ => kss.length - (intOf i).toNat)
  case atStart => exact ⟨0, by omega, rfl, Old.refl _⟩
  case round =>
    obtain ⟨k, hk, rfl, HG⟩ := hrel
    by_cases hlt : k < kss.length
    · have d1 : decide ((k : Int) < (kss.length : Int)) = true := by simp; omega
      rcases HV.out with ⟨a, cap, e, e2⟩ | ⟨b, o, cap, us, vs, e, hb2, h3, hc⟩
      · subst e2
        simp at hlt
      rcases HU.out with ⟨a', cap', e', e2'⟩ | ⟨b', o', cap', us', vs', e', hb2', h3', hc'⟩
      · subst e2'
        simp at hlt
      simp only [Value.slice.injEq, true_and] at e e'
      obtain ⟨rfl, rfl⟩ := e
      obtain ⟨rfl, rfl⟩ := e'
      obtain ⟨c0, c1, r0, r1⟩ := hc k hlt
      obtain ⟨c2, c3, r2, r3⟩ := hc' k hlt
      have hm : pk kss k ∈ kss := by simp [pk, List.getD, hlt]
      have hrl := hidK (HR.out _ hm)
      obtain ⟨x0, y0, e0⟩ := r0.slice
      obtain ⟨x1, y1, e1⟩ := r1.slice
      obtain ⟨x2, y2, e2⟩ := r2.slice
      obtain ⟨x3, y3, e3⟩ := r3.slice
      rw [e0] at c0 r0
      rw [e1] at c1 r1
      rw [e2] at c2 r2
      rw [e3] at c3 r3
      have R0 := hidK (r0.old HG.out)
      have R1 := hidK (r1.old HG.out)
      have R2 := hidK (r2.old HG.out)
      have R3 := hidK (r3.old HG.out)
      have q0 := (HG.out.cell (p := ⟨b, o + k * 2, none⟩) hb2).trans c0
      have q1 := (HG.out.cell (p := ⟨b, o + k * 2 + 1, none⟩) hb2).trans c1
      have q2 := (HG.out.cell (p := ⟨b', o' + k * 2, none⟩) hb2').trans c2
      have q3 := (HG.out.cell (p := ⟨b', o' + k * 2 + 1, none⟩) hb2').trans c3
      have hbr : b < wr.heap.size := Nat.lt_of_lt_of_le hb2 HG.out.size
      have hbr' : b' < wr.heap.size := Nat.lt_of_lt_of_le hb2' HG.out.size
      clear hc hc' c0 c1 c2 c3 r0 r1 r2 r3 e0 e1 e2 e3 hm
      generalize pk kss k = q at *
      obtain ⟨xss, yss⟩ := q
      have KE := hidK (fun W (g : Old wr W) => eqPair_yesV xss yss _ _ _ _ W (R0.out.old g) (R1.out.old g) (R2.out.old g) (R3.out.old g) (by have : ((xss.length : Nat) : Int) ≤ 1048576 := hrl.out.1.1; omega) (fun r hr => by have : ((r.length : Nat) : Int) ≤ 1048576 := hrl.out.1.2 r hr; omega) (by have : ((yss.length : Nat) : Int) ≤ 1048576 := hrl.out.2.1; omega) (fun r hr => by have : ((r.length : Nat) : Int) ≤ 1048576 := hrl.out.2.2 r hr; omega))
      have HAS : Hid (∀ W' : World, Old wr W' → (W'.cell? ⟨b, o + k * 2, none⟩ = some (.slice x0 xss.length y0) ∧ W'.cell? ⟨b, o + k * 2 + 1, none⟩ = some (.slice x1 yss.length y1) ∧ W'.cell? ⟨b', o' + k * 2, none⟩ = some (.slice x2 xss.length y2) ∧ W'.cell? ⟨b', o' + k * 2 + 1, none⟩ = some (.slice x3 yss.length y3))) := fun W' g => ⟨(g.cell (p := ⟨b, o + k * 2, none⟩) hbr).trans q0, (g.cell (p := ⟨b, o + k * 2 + 1, none⟩) hbr).trans q1, (g.cell (p := ⟨b', o' + k * 2, none⟩) hbr').trans q2, (g.cell (p := ⟨b', o' + k * 2 + 1, none⟩) hbr').trans q3⟩
      go_wp2_with fail
      go_region_held3 (fun W' => W'.cell? ⟨b, o + k * 2, none⟩ = some (.slice x0 xss.length y0) ∧ W'.cell? ⟨b, o + k * 2 + 1, none⟩ = some (.slice x1 yss.length y1) ∧ W'.cell? ⟨b', o' + k * 2, none⟩ = some (.slice x2 xss.length y2) ∧ W'.cell? ⟨b', o' + k * 2 + 1, none⟩ = some (.slice x3 yss.length y3)) (first | with_reducible exact HAS.out _ GE.out | with_reducible exact HAS.out _ (Below.drew (Old.refl wr)) | with_reducible exact HAS.out _ (Old.refl wr)) (first
        | (go_at_call 49; refine (KE.out _ (Below.drew (Old.refl wr))).mono ?_; rintro e w2 ⟨rfl, ge⟩; have GE : Hid (Old wr w2) := Old.trans (Below.drew (Old.refl wr)) ge; clear ge)
        | fail)
      have HG2 : Hid (Old w w2) := Old.trans HG.out GE.out
      go_wp2_with fail
      exact ⟨⟨k + 1, by omega, by go_num, HG2⟩, by simp [intOf]; omega⟩
    · have d1 : decide ((k : Int) < (kss.length : Int)) = false := by simp; omega
      go_wp2_with fail
      go_ret
      exact ⟨rfl, HG.out⟩
set_option maxRecDepth 100000 in
set_option maxHeartbeats 4000000 in
theorem Tryz.infoPairV : (Tryz.prog.info? 77).map (fun i => (i.zero, i.size, i.bytes)) = some (some (.agg #[.slice none 0 0, .slice none 0 0]), 2, 48) := by kernel_rfl
set_option maxRecDepth 100000 in
set_option maxHeartbeats 4000000 in
theorem toPairS_any (kss : List PrV) (v : Value) (w : World) (hv : RowK w v kss) (hl : kss.length ≤ 1048576) (hr : ∀ r ∈ kss, PrLe 1048576 r) :
    Calls Tryz.prog 12 #[v] w fun e w' => ∃ v', e = .returned v' ∧ Old w w' ∧ Ows (TKS kss) w' w.heap.size w'.heap.size [v'] := by
  obtain ⟨i0, hi, hz0, hz1, hz2⟩ := info_parts Tryz.infoPairV
  obtain ⟨a0, cap0, ev⟩ := hv.slice
  subst ev
  have HR := hidK hr
  have HV : Hid (RowK w (.slice a0 kss.length cap0) kss) := hv
  clear hv hr
  go_enter Tryz.func12, Tryz.ntmps12
  go_wp2_with (at_make; refine wpList_make_full _ rfl _ _ 38 rfl 0 77 i0 (.agg #[.slice none 0 0, .slice none 0 0]) 2 Tryz.underlying38 hi hz0 hz1 .i64 .i64 _ _ kss.length rfl rfl rfl rfl (by rw [hz2]; omega) (by unfold maxLen; omega) (Nat.zero_le _) ?_; intro w1 hown hgrow)
  have HO : Hid (TSc 77 2 kss.length 0 (elK kss) w1 w.heap.size kss.length _ (fun _ _ => False)) := TSc.start hown
  have HG : Hid (Old w w1) := Below.grown (Below.refl _ _) hgrow (Nat.le_refl _) (fun _ h => by cases h)
  have hs1 : w.heap.size < w1.heap.size := ownsRow_lt hown
  clear hown hgrow
  go_loopw [4] (fun i W => ∃ (k : Nat) (vs : List Value) (Bs : Nat → Nat → Prop), k ≤ kss.length ∧ i = .int .i64 k ∧ Hid (TSc 77 2 kss.length k (elK kss) W w.heap.size kss.length vs Bs) ∧ Hid (∀ j b, j < k → Bs j b → w.heap.size < b) ∧ Hid (Old w W)) (fun i _ => kss.length - (intOf i).toNat)
  case atStart => exact ⟨0, _, _, by omega, rfl, HO, (fun j b hj => by omega), HG⟩
  case round =>
    obtain ⟨k, vs, Bs, hk, rfl, H1, HB, HG1⟩ := hrel
    clear HO HG
    by_cases hlt : k < kss.length
    · have d1 : decide ((k : Int) < (kss.length : Int)) = true := by simp; omega
      rcases HV.out with ⟨a, cap, e, e2⟩ | ⟨b, o, cap, us, us', e, hb2, h3, hc⟩
      · subst e2
        simp at hlt
      simp only [Value.slice.injEq, true_and] at e
      obtain ⟨rfl, rfl⟩ := e
      obtain ⟨c0, c1, r0, r1⟩ := hc k hlt
      have hm : pk kss k ∈ kss := by simp [pk, List.getD, hlt]
      have hrl := hidK (HR.out _ hm)
      obtain ⟨x0, y0, e0⟩ := r0.slice
      obtain ⟨x1, y1, e1⟩ := r1.slice
      rw [e0] at c0 r0
      rw [e1] at c1 r1
      have q0 := (HG1.out.cell (p := ⟨b, o + k * 2, none⟩) hb2).trans c0
      have q1 := (HG1.out.cell (p := ⟨b, o + k * 2 + 1, none⟩) hb2).trans c1
      have R0 := hidK (r0.old HG1.out)
      have R1 := hidK (r1.old HG1.out)
      have HEL : Hid (elK kss k = TP (TSS (pk kss k).1) (TSS (pk kss k).2)) := rfl
      clear hc c0 c1 r0 r1 e0 e1 hm
      generalize pk kss k = q at *
      obtain ⟨xss, yss⟩ := q
      have KT := hidK (kpr_to xss yss _ _ wr R0.out R1.out (by have : ((xss.length : Nat) : Int) ≤ 1048576 := hrl.out.1.1; omega) (fun r hr => by have : ((r.length : Nat) : Int) ≤ 1048576 := hrl.out.1.2 r hr; omega) (by have : ((yss.length : Nat) : Int) ≤ 1048576 := hrl.out.2.1; omega) (fun r hr => by have : ((r.length : Nat) : Int) ≤ 1048576 := hrl.out.2.2 r hr; omega))
      go_wp2_with fail
      refine KT.out.mono ?_
      rintro e w2 ⟨g', rfl, g2, o2⟩
      obtain ⟨a2, c2, a3, c3, rfl⟩ := shape_XPr _ _ _ _ o2
      have hsr : w.heap.size < wr.heap.size := ownsRow_lt H1.out.row
      have H2 := H1.out.old (good_elK kss) g2
      obtain ⟨z0, hz0⟩ : ∃ y, w2.cell? ⟨w.heap.size, k * 2, none⟩ = some y := by
        have h5 := H2.cell k 0 hlt (by omega)
        have h6 := cellsJ_len H2.row.1 k hlt
        exact ⟨_, h5.trans (List.getElem?_eq_getElem (by omega))⟩
      obtain ⟨z1, hz1⟩ : ∃ y, w2.cell? ⟨w.heap.size, k * 2 + 1, none⟩ = some y := by
        have h5 := H2.cell k 1 hlt (by omega)
        have h6 := cellsJ_len H2.row.1 k hlt
        exact ⟨_, h5.trans (List.getElem?_eq_getElem (by omega))⟩
      have f0 : w2.frozen? ⟨w.heap.size, k * 2, none⟩ = false := H2.frozen _
      have f1 : w2.frozen? ⟨w.heap.size, k * 2 + 1, none⟩ = false := H2.frozen _
      obtain ⟨B, hTI, hBlo⟩ := XPr.tp o2
      have hst := H2.store2 (good_elK kss) hlt (.slice a2 xss.length c2) (.slice a3 yss.length c3) (B := B) (fun W' hW' => by
        rw [HEL.out]
        refine (good_TP (good_TSS xss) (good_TSS yss)).far hTI (fun b hb => hW' b ?_)
        have := (hBlo b hb).1
        omega) (fun hb => by have := (hBlo _ hb).1; omega) (fun j hj b h1 h2 => by
          have h4 := H1.out.lt (good_elK kss) j b hj h1
          have := (hBlo b h2).1
          omega)
      obtain ⟨vs', H3⟩ := hst
      have HN : Hid (TSc 77 2 kss.length (k + 1) (elK kss) ((w2.setCell ⟨w.heap.size, k * 2, none⟩ (.slice a2 xss.length c2)).setCell ⟨w.heap.size, k * 2 + 1, none⟩ (.slice a3 yss.length c3)) w.heap.size kss.length vs' (fun q => if q = k then B else Bs q)) := H3
      have HNB : Hid (∀ j b, j < k + 1 → (fun q => if q = k then B else Bs q) j b → w.heap.size < b) := fun j b hj hb => by
        by_cases e : j = k
        · simp only [e, if_true] at hb
          have := (hBlo b hb).1
          omega
        · simp only [e, if_false] at hb
          exact HB.out j b (by omega) hb
      have HG2 : Hid (Old w ((w2.setCell ⟨w.heap.size, k * 2, none⟩ (.slice a2 xss.length c2)).setCell ⟨w.heap.size, k * 2 + 1, none⟩ (.slice a3 yss.length c3))) := ((Old.trans HG1.out g2).own (p := ⟨w.heap.size, k * 2, none⟩) (Nat.le_refl _) _).own (p := ⟨w.heap.size, k * 2 + 1, none⟩) (Nat.le_refl _) _
      clear H1 H2 H3 g2 o2 hTI hBlo HB HEL KT
      go_wp2_with fail
      exact ⟨⟨k + 1, vs', _, by omega, by go_num, HN, HNB, HG2⟩, by simp [intOf]; omega⟩
    · have d1 : decide ((k : Int) < (kss.length : Int)) = false := by simp; omega
      obtain rfl : k = kss.length := by omega
      go_wp2_with fail
      go_ret
      exact ⟨_, rfl, HG1.out, H1.out.done (good_elK kss) (Nat.le_refl _) (fun j b hj hb => Nat.le_of_lt (HB.out j b hj hb))⟩
end Go.Proofs.YtanijpekdnkicaaGreatDoor
/- Proved: boxes as a law carries them: sizes, copies, comparisons. -/
namespace Go.Proofs.YtanijpekdnkicaaGreatDoor
open Go.ChangeShapes Go.WideShapes Go.ChangeAt Go.RowKit
set_option linter.unusedVariables false
set_option linter.unusedSimpArgs false
theorem Old.own1 {w W : World} (g : Old w W) {k : Nat} (hk : w.heap.size ≤ k) (i : Nat) (x : Value) : Old w (W.setCell ⟨k, i, none⟩ x) := g.own (p := ⟨k, i, none⟩) hk x
theorem Far.put1 {α : Type} {R : World → Nat → Nat → α → Prop} (f : Far R) {W : World} {lo hi : Nat} {v : α} (h : R W lo hi v) {k : Nat} (hk : k < lo) (i : Nat) (x : Value) : R (W.setCell ⟨k, i, none⟩ x) lo hi v :=
  f W _ lo hi v h (fun b h1 h2 => heap_setCell_other _ _ _ _ (by show b ≠ k; omega)) (by simp)
theorem Bk.put1 {W : World} {m k : Nat} {cs : Array Value} {t : TypeId} (h : Bk W m cs t) (hk : m ≠ k) (i : Nat) (x : Value) : Bk (W.setCell ⟨k, i, none⟩ x) m cs t := (heap_setCell_other W ⟨k, i, none⟩ m x hk).trans h
theorem Bk.set1 {W : World} {k i : Nat} {cs : Array Value} {t : TypeId} (h : Bk W k cs t) (x : Value) : Bk (W.setCell ⟨k, i, none⟩ x) k (cs.setIfInBounds i x) t := heap_setCell_same W k i cs t x h
theorem Bk.fz {W : World} {k : Nat} {cs : Array Value} {t : TypeId} (h : Bk W k cs t) (i : Nat) : W.frozen? ⟨k, i, none⟩ = false := by simp [World.frozen?, show W.heap[k]? = _ from h]
theorem Bk.ten {W : World} {k : Nat} {x0 x1 x2 x3 x4 x5 x6 x7 x8 x9 : Value} {t : TypeId} (h : Bk W k #[x0, x1, x2, x3, x4, x5, x6, x7, x8, x9] t) (y0 y1 y2 y3 y4 y5 y6 y7 y8 y9 : Value) : Bk ((((((((((W.setCell ⟨k, 0, none⟩ y0).setCell ⟨k, 1, none⟩ y1).setCell ⟨k, 2, none⟩ y2).setCell ⟨k, 3, none⟩ y3).setCell ⟨k, 4, none⟩ y4).setCell ⟨k, 5, none⟩ y5).setCell ⟨k, 6, none⟩ y6).setCell ⟨k, 7, none⟩ y7).setCell ⟨k, 8, none⟩ y8).setCell ⟨k, 9, none⟩ y9) k #[y0, y1, y2, y3, y4, y5, y6, y7, y8, y9] t := by
  have h0 : Bk (W.setCell ⟨k, 0, none⟩ y0) k #[y0, x1, x2, x3, x4, x5, x6, x7, x8, x9] t := heap_setCell_same _ k 0 _ _ _ h
  have h1 : Bk ((W.setCell ⟨k, 0, none⟩ y0).setCell ⟨k, 1, none⟩ y1) k #[y0, y1, x2, x3, x4, x5, x6, x7, x8, x9] t := heap_setCell_same _ k 1 _ _ _ h0
  have h2 : Bk (((W.setCell ⟨k, 0, none⟩ y0).setCell ⟨k, 1, none⟩ y1).setCell ⟨k, 2, none⟩ y2) k #[y0, y1, y2, x3, x4, x5, x6, x7, x8, x9] t := heap_setCell_same _ k 2 _ _ _ h1
  have h3 : Bk ((((W.setCell ⟨k, 0, none⟩ y0).setCell ⟨k, 1, none⟩ y1).setCell ⟨k, 2, none⟩ y2).setCell ⟨k, 3, none⟩ y3) k #[y0, y1, y2, y3, x4, x5, x6, x7, x8, x9] t := heap_setCell_same _ k 3 _ _ _ h2
  have h4 : Bk (((((W.setCell ⟨k, 0, none⟩ y0).setCell ⟨k, 1, none⟩ y1).setCell ⟨k, 2, none⟩ y2).setCell ⟨k, 3, none⟩ y3).setCell ⟨k, 4, none⟩ y4) k #[y0, y1, y2, y3, y4, x5, x6, x7, x8, x9] t := heap_setCell_same _ k 4 _ _ _ h3
  have h5 : Bk ((((((W.setCell ⟨k, 0, none⟩ y0).setCell ⟨k, 1, none⟩ y1).setCell ⟨k, 2, none⟩ y2).setCell ⟨k, 3, none⟩ y3).setCell ⟨k, 4, none⟩ y4).setCell ⟨k, 5, none⟩ y5) k #[y0, y1, y2, y3, y4, y5, x6, x7, x8, x9] t := heap_setCell_same _ k 5 _ _ _ h4
  have h6 : Bk (((((((W.setCell ⟨k, 0, none⟩ y0).setCell ⟨k, 1, none⟩ y1).setCell ⟨k, 2, none⟩ y2).setCell ⟨k, 3, none⟩ y3).setCell ⟨k, 4, none⟩ y4).setCell ⟨k, 5, none⟩ y5).setCell ⟨k, 6, none⟩ y6) k #[y0, y1, y2, y3, y4, y5, y6, x7, x8, x9] t := heap_setCell_same _ k 6 _ _ _ h5
  have h7 : Bk ((((((((W.setCell ⟨k, 0, none⟩ y0).setCell ⟨k, 1, none⟩ y1).setCell ⟨k, 2, none⟩ y2).setCell ⟨k, 3, none⟩ y3).setCell ⟨k, 4, none⟩ y4).setCell ⟨k, 5, none⟩ y5).setCell ⟨k, 6, none⟩ y6).setCell ⟨k, 7, none⟩ y7) k #[y0, y1, y2, y3, y4, y5, y6, y7, x8, x9] t := heap_setCell_same _ k 7 _ _ _ h6
  have h8 : Bk (((((((((W.setCell ⟨k, 0, none⟩ y0).setCell ⟨k, 1, none⟩ y1).setCell ⟨k, 2, none⟩ y2).setCell ⟨k, 3, none⟩ y3).setCell ⟨k, 4, none⟩ y4).setCell ⟨k, 5, none⟩ y5).setCell ⟨k, 6, none⟩ y6).setCell ⟨k, 7, none⟩ y7).setCell ⟨k, 8, none⟩ y8) k #[y0, y1, y2, y3, y4, y5, y6, y7, y8, x9] t := heap_setCell_same _ k 8 _ _ _ h7
  have h9 : Bk ((((((((((W.setCell ⟨k, 0, none⟩ y0).setCell ⟨k, 1, none⟩ y1).setCell ⟨k, 2, none⟩ y2).setCell ⟨k, 3, none⟩ y3).setCell ⟨k, 4, none⟩ y4).setCell ⟨k, 5, none⟩ y5).setCell ⟨k, 6, none⟩ y6).setCell ⟨k, 7, none⟩ y7).setCell ⟨k, 8, none⟩ y8).setCell ⟨k, 9, none⟩ y9) k #[y0, y1, y2, y3, y4, y5, y6, y7, y8, y9] t := heap_setCell_same _ k 9 _ _ _ h8
  exact h9
theorem xp_low {N T E : Int} {ps : List Int} {W : World} {lo lo' hi : Nat} {g : Array Value} (h : XP N T E ps W lo hi g) (hl : lo' ≤ lo) : XP N T E ps W lo' hi g := by
  obtain ⟨a, c, e, o, f⟩ := h
  exact ⟨a, c, e, ⟨Own.low o.1 hl, o.2.1, o.2.2⟩, f⟩
set_option maxHeartbeats 1000000 in
theorem eqCipher_yesV (xsss : List (List (List Int))) (v u : Value) (w : World) (r0 : RowT w v xsss) (r1 : RowT w u xsss) (hl : xsss.length ≤ 1048576) (hr : ∀ r ∈ xsss, r.length ≤ 1048576 ∧ ∀ q ∈ r, q.length ≤ 1048576) :
    Calls Tryz.prog 14 #[.agg #[v], .agg #[u]] w fun e w' => e = .returned (.bool true) ∧ Old w w' := by
  obtain ⟨a0, cap0, rfl⟩ := r0.slice
  obtain ⟨a1, cap1, rfl⟩ := r1.slice
  have HR := hidK r0
  have HK := hidK r1
  have HRR := hidK hr
  clear r0 r1 hr
  go_enter Tryz.func14, Tryz.ntmps14
  go_wp2_with fail
  refine (eqIntSSS_yes xsss _ _ _ (HR.out.old (((Old.refl w).alloc _).alloc _)) (HK.out.old (((Old.refl w).alloc _).alloc _)) hl HRR.out).mono ?_
  rintro e w1 ⟨rfl, g1⟩
  have HG : Hid (Old w w1) := Old.trans (((Old.refl w).alloc _).alloc _) g1
  clear g1
  go_wp2_with fail
  go_ret
  exact ⟨rfl, HG.out⟩
def BoxW (w : World) (v : Value) (kd N T E : Int) (ps pl : List Int) (xs3 : List (List (List Int))) (sg : Bool) (ls : List Int) (kss : List PrV) : Prop := ∃ (a0 : Option Addr) (c0 : Nat) (a1 : Option Addr) (c1 : Nat) (a2 : Option Addr) (c2 : Nat) (a3 : Option Addr) (c3 : Nat) (a4 : Option Addr) (c4 : Nat), v = .agg #[.int .i64 kd, .int .i64 N, .int .i64 T, .int .i64 E, .slice a0 ps.length c0, .slice a1 pl.length c1, .slice a2 xs3.length c2, .bool sg, .slice a3 ls.length c3, .slice a4 kss.length c4] ∧ Row w (.slice a0 ps.length c0) ps ∧ Row w (.slice a1 pl.length c1) pl ∧ RowT w (.slice a2 xs3.length c2) xs3 ∧ Row w (.slice a3 ls.length c3) ls ∧ RowK w (.slice a4 kss.length c4) kss
theorem BoxW.old {w w' : World} {v : Value} {kd N T E : Int} {ps pl : List Int} {xs3 : List (List (List Int))} {sg : Bool} {ls : List Int} {kss : List PrV} (h : BoxW w v kd N T E ps pl xs3 sg ls kss) (g : Old w w') : BoxW w' v kd N T E ps pl xs3 sg ls kss := by
  obtain ⟨a0, c0, a1, c1, a2, c2, a3, c3, a4, c4, e, h0, h1, h2, h3, h4⟩ := h
  exact ⟨a0, c0, a1, c1, a2, c2, a3, c3, a4, c4, e, h0.old g, h1.old g, h2.old g, h3.old g, h4.old g⟩
def BoxLe (m : Nat) (ps pl : List Int) (xs3 : List (List (List Int))) (ls : List Int) (kss : List PrV) : Prop := ps.length ≤ m ∧ pl.length ≤ m ∧ xs3.length ≤ m ∧ (∀ r ∈ xs3, r.length ≤ m ∧ ∀ q ∈ r, q.length ≤ m) ∧ ls.length ≤ m ∧ kss.length ≤ m ∧ ∀ r ∈ kss, PrLe m r
def XBx (kd N T E : Int) (ps pl : List Int) (xs3 : List (List (List Int))) (sg : Bool) (ls : List Int) (kss : List PrV) (W : World) (lo hi : Nat) (g : Array Value) : Prop := ∃ (a0 : Option Addr) (c0 : Nat) (a1 : Option Addr) (c1 : Nat) (a2 : Option Addr) (c2 : Nat) (a3 : Option Addr) (c3 : Nat) (a4 : Option Addr) (c4 : Nat) (m1 m2 m3 m4 : Nat), g = #[.int .i64 kd, .int .i64 N, .int .i64 T, .int .i64 E, .slice a0 ps.length c0, .slice a1 pl.length c1, .slice a2 xs3.length c2, .bool sg, .slice a3 ls.length c3, .slice a4 kss.length c4] ∧ (lo ≤ m1 ∧ m1 ≤ m2 ∧ m2 ≤ m3 ∧ m3 ≤ m4 ∧ m4 ≤ hi) ∧ XP N T E ps W lo m1 #[.int .i64 N, .int .i64 T, .int .i64 E, .slice a0 ps.length c0] ∧ XI pl W m1 m2 (.slice a1 pl.length c1) ∧ XC xs3 W m2 m3 #[.slice a2 xs3.length c2] ∧ XW sg ls W m3 m4 #[.bool sg, .slice a3 ls.length c3] ∧ Ows (TKS kss) W m4 hi [.slice a4 kss.length c4]
theorem far_XBx (kd N T E : Int) (ps pl : List Int) (xs3 : List (List (List Int))) (sg : Bool) (ls : List Int) (kss : List PrV) : Far (XBx kd N T E ps pl xs3 sg ls kss) := fun W W' lo hi v h hf hs => by
  obtain ⟨a0, c0, a1, c1, a2, c2, a3, c3, a4, c4, m1, m2, m3, m4, e, hm, h0, h1, h2, h3, h4⟩ := h
  exact ⟨a0, c0, a1, c1, a2, c2, a3, c3, a4, c4, m1, m2, m3, m4, e, hm, far_XP N T E ps W W' lo m1 _ h0 (fun b q1 q2 => hf b (by omega) (by omega)) hs, far_XI pl W W' m1 m2 _ h1 (fun b q1 q2 => hf b (by omega) (by omega)) hs, far_XC xs3 W W' m2 m3 _ h2 (fun b q1 q2 => hf b (by omega) (by omega)) hs, far_XW sg ls W W' m3 m4 _ h3 (fun b q1 q2 => hf b (by omega) (by omega)) hs, far_Ows (good_TKS kss) W W' m4 hi _ h4 (fun b q1 q2 => hf b (by omega) (by omega)) hs⟩
theorem XBx.boxW {kd N T E : Int} {ps pl : List Int} {xs3 : List (List (List Int))} {sg : Bool} {ls : List Int} {kss : List PrV} {W : World} {lo hi : Nat} {g : Array Value} (h : XBx kd N T E ps pl xs3 sg ls kss W lo hi g) : BoxW W (.agg g) kd N T E ps pl xs3 sg ls kss := by
  obtain ⟨a0, c0, a1, c1, a2, c2, a3, c3, a4, c4, m1, m2, m3, m4, e, hm, h0, h1, h2, h3, h4⟩ := h
  obtain ⟨x0, y0, e0, o0, f0⟩ := h0
  obtain ⟨x1, y1, e1, o1, f1⟩ := h1
  obtain ⟨x2, y2, e2, o2⟩ := h2
  obtain ⟨x3, y3, e3, o3⟩ := h3
  have r4 := h4.rowK
  simp at e0 e1 e2 e3
  obtain ⟨rfl, rfl⟩ := e0
  obtain ⟨rfl, rfl⟩ := e1
  obtain ⟨rfl, rfl⟩ := e2
  obtain ⟨rfl, rfl⟩ := e3
  subst e
  exact ⟨_, _, _, _, _, _, _, _, _, _, rfl, o0.row, o1.row, o2.rowT, o3.row, r4⟩
set_option maxRecDepth 100000 in
set_option maxHeartbeats 4000000 in
theorem eqBox_yes (kd N T E : Int) (ps pl : List Int) (xs3 : List (List (List Int))) (sg : Bool) (ls : List Int) (kss : List PrV) (v u : Value) (w : World) (hv : BoxW w v kd N T E ps pl xs3 sg ls kss) (hu : BoxW w u kd N T E ps pl xs3 sg ls kss) (hl : BoxLe 1048576 ps pl xs3 ls kss) :
    Calls Tryz.prog 28 #[v, u] w fun e w' => e = .returned (.bool true) ∧ Old w w' := by
  obtain ⟨a0, c0, a1, c1, a2, c2, a3, c3, a4, c4, rfl, r0, r1, r2, r3, r4⟩ := hv
  obtain ⟨ya0, yc0, ya1, yc1, ya2, yc2, ya3, yc3, ya4, yc4, rfl, s0, s1, s2, s3, s4⟩ := hu
  obtain ⟨l0, l1, l2, l2', l3, l4, l4'⟩ := hl
  have k0 := hidK (fun W (g : Old w W) => eqParams_yes N T E ps _ _ W (r0.old g) (s0.old g) (by omega))
  have k1 := hidK (fun W (g : Old w W) => eqInts_yes pl _ _ W (r1.old g) (s1.old g) (by omega))
  have k2 := hidK (fun W (g : Old w W) => eqCipher_yesV xs3 _ _ W (r2.old g) (s2.old g) l2 l2')
  have k3 := hidK (fun W (g : Old w W) => eqWhole_yes sg ls _ _ W (r3.old g) (s3.old g) (by omega))
  have k4 := hidK (fun W (g : Old w W) => eqPairS_yes kss _ _ W (r4.old g) (s4.old g) l4 l4')
  have dn : (kd != kd) = false := by simp
  clear r0 r1 r2 r3 r4 s0 s1 s2 s3 s4 l0 l1 l2 l2' l3 l4 l4'
  obtain ⟨B1, hB1⟩ : ∃ B : World, (w.alloc (.cells #[.int .i64 kd, .int .i64 N, .int .i64 T, .int .i64 E, .slice a0 ps.length c0, .slice a1 pl.length c1, .slice a2 xs3.length c2, .bool sg, .slice a3 ls.length c3, .slice a4 kss.length c4] 59)).alloc (.cells #[.int .i64 kd, .int .i64 N, .int .i64 T, .int .i64 E, .slice ya0 ps.length yc0, .slice ya1 pl.length yc1, .slice ya2 xs3.length yc2, .bool sg, .slice ya3 ls.length yc3, .slice ya4 kss.length yc4] 59) = B := ⟨_, rfl⟩
  have O1 : Hid (Old w B1) := by rw [← hB1]; exact ((Old.refl w).alloc _).alloc _
  have P1 : Hid (Bk B1 w.heap.size #[.int .i64 kd, .int .i64 N, .int .i64 T, .int .i64 E, .slice a0 ps.length c0, .slice a1 pl.length c1, .slice a2 xs3.length c2, .bool sg, .slice a3 ls.length c3, .slice a4 kss.length c4] 59) := by rw [← hB1]; exact (Bk.new' w _ _ rfl).alloc _
  have Q1 : Hid (Bk B1 (w.heap.size + 1) #[.int .i64 kd, .int .i64 N, .int .i64 T, .int .i64 E, .slice ya0 ps.length yc0, .slice ya1 pl.length yc1, .slice ya2 xs3.length yc2, .bool sg, .slice ya3 ls.length yc3, .slice ya4 kss.length yc4] 59) := by rw [← hB1]; exact Bk.new' _ _ _ (by simp)
  obtain ⟨kp, hkp⟩ : ∃ kp, w.heap.size = kp := ⟨_, rfl⟩
  rw [hkp] at P1 Q1
  have x0 := P1.out.c (i := 0) rfl
  have x1 := P1.out.c (i := 1) rfl
  have x2 := P1.out.c (i := 2) rfl
  have x3 := P1.out.c (i := 3) rfl
  have x4 := P1.out.c (i := 4) rfl
  have y0 := Q1.out.c (i := 0) rfl
  have y1 := Q1.out.c (i := 1) rfl
  have y2 := Q1.out.c (i := 2) rfl
  have y3 := Q1.out.c (i := 3) rfl
  have y4 := Q1.out.c (i := 4) rfl
  go_enter Tryz.func28, Tryz.ntmps28
  go_wp2_with fail
  refine (k0.out _ O1.out).mono ?_
  rintro e w0 ⟨rfl, g0⟩
  have G0 := hidK (Old.trans O1.out g0)
  have P2 := hidK (P1.out.old g0)
  have Q2 := hidK (Q1.out.old g0)
  clear g0 x0 y0 x1 y1 x2 y2 x3 y3 x4 y4 hB1
  have x5 := P2.out.c (i := 5) rfl
  have y5 := Q2.out.c (i := 5) rfl
  go_wp2_with fail
  refine (k1.out _ G0.out).mono ?_
  rintro e w1 ⟨rfl, g1⟩
  have G1 := hidK (Old.trans G0.out g1)
  have P3 := hidK (P2.out.old g1)
  have Q3 := hidK (Q2.out.old g1)
  clear g1 x5 y5
  have x6 := P3.out.c (i := 6) rfl
  have y6 := Q3.out.c (i := 6) rfl
  go_wp2_with fail
  refine (k2.out _ G1.out).mono ?_
  rintro e w2 ⟨rfl, g2⟩
  have G2 := hidK (Old.trans G1.out g2)
  have P4 := hidK (P3.out.old g2)
  have Q4 := hidK (Q3.out.old g2)
  clear g2 x6 y6
  have x7 := P4.out.c (i := 7) rfl
  have x8 := P4.out.c (i := 8) rfl
  have y7 := Q4.out.c (i := 7) rfl
  have y8 := Q4.out.c (i := 8) rfl
  go_wp2_with fail
  refine (k3.out _ G2.out).mono ?_
  rintro e w3 ⟨rfl, g3⟩
  have G3 := hidK (Old.trans G2.out g3)
  have P5 := hidK (P4.out.old g3)
  have Q5 := hidK (Q4.out.old g3)
  clear g3 x7 y7 x8 y8
  have x9 := P5.out.c (i := 9) rfl
  have y9 := Q5.out.c (i := 9) rfl
  go_wp2_with fail
  refine (k4.out _ G3.out).mono ?_
  rintro e w4 ⟨rfl, g4⟩
  have G4 := hidK (Old.trans G3.out g4)
  clear g4 x9 y9
  go_wp2_with fail
  go_ret
  exact ⟨rfl, G4.out⟩
end Go.Proofs.YtanijpekdnkicaaGreatDoor
/- Proved: boxes as a law carries them: sizes, and how many numbers there are. -/
namespace Go.Proofs.YtanijpekdnkicaaGreatDoor
open Go.ChangeShapes Go.WideShapes Go.ChangeAt Go.RowKit
set_option linter.unusedVariables false
set_option linter.unusedSimpArgs false
def BxOff (ps pl : List Int) (xs3 : List (List (List Int))) (ls : List Int) (kss : List PrV) : Prop := BoxLe 1048576 ps pl xs3 ls kss ∧ offT xs3 xs3.length ≤ 1048576 ∧ offK kss kss.length ≤ 1048576
set_option maxRecDepth 100000 in
set_option maxHeartbeats 4000000 in
theorem szBox_off (kd N T E : Int) (ps pl : List Int) (xs3 : List (List (List Int))) (sg : Bool) (ls : List Int) (kss : List PrV) (v : Value) (left : Int) (w : World) (hv : BoxW w v kd N T E ps pl xs3 sg ls kss) (hl : BoxLe 9223372036854775807 ps pl xs3 ls kss) (h0 : 0 ≤ left) (h1 : left ≤ 1048576) :
    Calls Tryz.prog 23 #[v, .int .i64 left] w fun e w' => ∃ L : Int, e = .returned (.int .i64 L) ∧ Old w w' ∧ (L < 0 ∨ BxOff ps pl xs3 ls kss) := by
  obtain ⟨a0, c0, a1, c1, a2, c2, a3, c3, a4, c4, rfl, r0, r1, r2, r3, r4⟩ := hv
  obtain ⟨l0, l1, l2, l2', l3, l4, l4'⟩ := hl
  have k1 : Hid (∀ z, 0 ≤ z → z ≤ 1048576 → ∀ W, Calls Tryz.prog 32 #[.slice a1 pl.length c1, .int .i64 z] W fun e w' => e = .returned (.int .i64 (leftN z pl.length)) ∧ Old W w') := fun z q0 q1 W => (szInts_any a1 pl.length c1 z W l1 q0 q1).mono fun e w' h => ⟨h.1, by rw [h.2]; exact Old.refl W⟩
  have k2 := hidK (fun z (q0 : 0 ≤ z) (q1 : z ≤ 1048576) W (g : Old w W) => kc_sz xs3 (.slice a2 xs3.length c2) z W (r2.old g) l2 l2' q0 q1)
  have k3 := hidK (fun z (q0 : 0 ≤ z) (q1 : z ≤ 1048576) W => kw_sz sg a3 ls.length c3 z W l3 q0 q1)
  have k4 := hidK (fun z (q0 : 0 ≤ z) (q1 : z ≤ 1048576) W (g : Old w W) => szPairS_any kss (.slice a4 kss.length c4) z W (r4.old g) l4 l4' q0 q1)
  have k0 := hidK (fun W => kp_sz N T E a0 ps.length c0 left W l0 h0 h1)
  clear r0 r1 r2 r3 r4 l0 l1 l2 l2' l3 l4 l4'
  obtain ⟨B1, hB1⟩ : ∃ B : World, w.alloc (.cells #[.int .i64 kd, .int .i64 N, .int .i64 T, .int .i64 E, .slice a0 ps.length c0, .slice a1 pl.length c1, .slice a2 xs3.length c2, .bool sg, .slice a3 ls.length c3, .slice a4 kss.length c4] 52) = B := ⟨_, rfl⟩
  have O1 : Hid (Old w B1) := by rw [← hB1]; exact (Old.refl w).alloc _
  have P1 : Hid (Bk B1 w.heap.size #[.int .i64 kd, .int .i64 N, .int .i64 T, .int .i64 E, .slice a0 ps.length c0, .slice a1 pl.length c1, .slice a2 xs3.length c2, .bool sg, .slice a3 ls.length c3, .slice a4 kss.length c4] 52) := by rw [← hB1]; exact Bk.new' w _ _ rfl
  obtain ⟨kp, hkp⟩ : ∃ kp, w.heap.size = kp := ⟨_, rfl⟩
  rw [hkp] at P1
  have x1 := P1.out.c (i := 1) rfl
  have x2 := P1.out.c (i := 2) rfl
  have x3 := P1.out.c (i := 3) rfl
  have x4 := P1.out.c (i := 4) rfl
  go_enter Tryz.func23, Tryz.ntmps23
  go_wp2_with fail
  refine (k0.out _).mono ?_
  rintro e w0 ⟨rfl, g0⟩
  have G0 := hidK (Old.trans O1.out g0)
  have P2 := hidK (P1.out.old g0)
  clear g0 O1 hB1
  clear x1 x2 x3 x4
  by_cases hz : leftN left ps.length < 0
  · have d : decide (leftN left ps.length < 0) = true := decide_eq_true hz
    have HZ := hidK hz
    generalize leftN left ps.length = z0 at *
    clear hz
    go_wp2_with fail
    go_ret
    exact ⟨_, rfl, G0.out, Or.inl (by omega)⟩
  have d0 : decide (leftN left ps.length < 0) = false := decide_eq_false hz
  obtain ⟨b0, e0, q0⟩ := leftN_ok hz h0
  have p0 : 0 ≤ leftN left ps.length ∧ leftN left ps.length ≤ 1048576 := ⟨q0, by omega⟩
  have HB0 : Hid (ps.length ≤ 1048576) := show ps.length ≤ 1048576 by omega
  clear e0 b0 q0
  generalize leftN left ps.length = z0 at *
  clear hz
  have x5 := P2.out.c (i := 5) rfl
  go_wp2_with fail
  refine (k1.out z0 p0.1 p0.2 _).mono ?_
  rintro e w1 ⟨rfl, g1⟩
  have G1 := hidK (Old.trans G0.out g1)
  have P3 := hidK (P2.out.old g1)
  clear g1
  clear x5
  by_cases hz : leftN z0 pl.length < 0
  · have d : decide (leftN z0 pl.length < 0) = true := decide_eq_true hz
    have HZ := hidK hz
    generalize leftN z0 pl.length = z1 at *
    clear hz
    go_wp2_with fail
    go_ret
    exact ⟨_, rfl, G1.out, Or.inl (by omega)⟩
  have d1 : decide (leftN z0 pl.length < 0) = false := decide_eq_false hz
  obtain ⟨b0, e0, q0⟩ := leftN_ok hz p0.1
  have p1 : 0 ≤ leftN z0 pl.length ∧ leftN z0 pl.length ≤ 1048576 := ⟨q0, by omega⟩
  have HB1 : Hid (pl.length ≤ 1048576) := show pl.length ≤ 1048576 by omega
  clear e0 b0 q0
  generalize leftN z0 pl.length = z1 at *
  clear hz
  have x6 := P3.out.c (i := 6) rfl
  go_wp2_with fail
  refine (k2.out z1 p1.1 p1.2 _ G1.out).mono ?_
  rintro e w2 ⟨rfl, g2⟩
  have G2 := hidK (Old.trans G1.out g2)
  have P4 := hidK (P3.out.old g2)
  clear g2
  clear x6
  by_cases hz : leftTT z1 xs3 < 0
  · have d : decide (leftTT z1 xs3 < 0) = true := decide_eq_true hz
    have HZ := hidK hz
    generalize leftTT z1 xs3 = z2 at *
    clear hz
    go_wp2_with fail
    go_ret
    exact ⟨_, rfl, G2.out, Or.inl (by omega)⟩
  have d2 : decide (leftTT z1 xs3 < 0) = false := decide_eq_false hz
  obtain ⟨q0, q1, q2, q3, q4⟩ := leftTT_ok p1.1 hz
  have p2 : 0 ≤ leftTT z1 xs3 ∧ leftTT z1 xs3 ≤ 1048576 := ⟨q0, by omega⟩
  have HO2 : Hid (offT xs3 xs3.length ≤ 1048576) := show offT xs3 xs3.length ≤ 1048576 by omega
  have HB2 : Hid (xs3.length ≤ 1048576 ∧ ∀ r ∈ xs3, r.length ≤ 1048576 ∧ ∀ q ∈ r, q.length ≤ 1048576) := ⟨by omega, fun r hr => by
    have := q4 r hr
    exact ⟨by omega, fun q hq => by have := this.2 q hq; omega⟩⟩
  clear q0 q1 q2 q3 q4
  generalize leftTT z1 xs3 = z2 at *
  clear hz
  have x7 := P4.out.c (i := 7) rfl
  have x8 := P4.out.c (i := 8) rfl
  go_wp2_with fail
  refine (k3.out z2 p2.1 p2.2 _).mono ?_
  rintro e w3 ⟨rfl, g3⟩
  have G3 := hidK (Old.trans G2.out g3)
  have P5 := hidK (P4.out.old g3)
  clear g3
  clear x7 x8
  by_cases hz : leftN z2 ls.length < 0
  · have d : decide (leftN z2 ls.length < 0) = true := decide_eq_true hz
    have HZ := hidK hz
    generalize leftN z2 ls.length = z3 at *
    clear hz
    go_wp2_with fail
    go_ret
    exact ⟨_, rfl, G3.out, Or.inl (by omega)⟩
  have d3 : decide (leftN z2 ls.length < 0) = false := decide_eq_false hz
  obtain ⟨b0, e0, q0⟩ := leftN_ok hz p2.1
  have p3 : 0 ≤ leftN z2 ls.length ∧ leftN z2 ls.length ≤ 1048576 := ⟨q0, by omega⟩
  have HB3 : Hid (ls.length ≤ 1048576) := show ls.length ≤ 1048576 by omega
  clear e0 b0 q0
  generalize leftN z2 ls.length = z3 at *
  clear hz
  have x9 := P5.out.c (i := 9) rfl
  go_wp2_with fail
  refine (k4.out z3 p3.1 p3.2 _ G3.out).mono ?_
  rintro e w4 ⟨rfl, g4⟩
  have G4 := hidK (Old.trans G3.out g4)
  have P6 := hidK (P5.out.old g4)
  clear g4
  clear x9
  by_cases hz : leftKK z3 kss < 0
  · have d : decide (leftKK z3 kss < 0) = true := decide_eq_true hz
    have HZ := hidK hz
    generalize leftKK z3 kss = z4 at *
    clear hz
    go_wp2_with fail
    go_ret
    exact ⟨_, rfl, G4.out, Or.inl (by omega)⟩
  have d4 : decide (leftKK z3 kss < 0) = false := decide_eq_false hz
  obtain ⟨q0, q1, q2, q3, q4⟩ := leftKK_ok p3.1 hz
  have HO4 : Hid (offK kss kss.length ≤ 1048576) := show offK kss kss.length ≤ 1048576 by omega
  have HB4 : Hid (kss.length ≤ 1048576 ∧ ∀ r ∈ kss, PrLe 1048576 r) := ⟨by omega, fun r hr => by
    obtain ⟨⟨e1, e2⟩, e3, e4⟩ := q4 r hr
    exact ⟨⟨by omega, fun q hq => by have := e2 q hq; omega⟩, by omega, fun q hq => by have := e4 q hq; omega⟩⟩
  clear q0 q1 q2 q3 q4
  generalize leftKK z3 kss = z4 at *
  clear hz
  go_wp2_with fail
  go_ret
  exact ⟨_, rfl, G4.out, Or.inr ⟨⟨HB0.out, HB1.out, HB2.out.1, HB2.out.2, HB3.out, HB4.out.1, HB4.out.2⟩, HO2.out, HO4.out⟩⟩
end Go.Proofs.YtanijpekdnkicaaGreatDoor
