/- Proved: several texts in one: what each proves is said ahead of it. -/
import Derived.Test.YtakleianimcmdaaGreatDoorP02
import Derived.Test.YtakleianimcmdaaGreatDoorP12
import Derived.Deep.RegionHeld3
/- Proved: rows of rows as a law carries them: sizes, copies, comparisons. -/
namespace Go.Proofs.YtakleianimcmdaaGreatDoor
open Go.ChangeShapes Go.WideShapes Go.ChangeAt Go.RowKit
set_option linter.unusedVariables false
set_option linter.unusedSimpArgs false
def RowS (w : World) (v : Value) (xss : List (List Int)) : Prop :=
  (∃ a cap, v = .slice a 0 cap ∧ xss = []) ∨ ∃ b o cap, ∃ us : Nat → Value, v = .slice (some ⟨b, o, none⟩) xss.length cap ∧ b < w.heap.size ∧ 0 < xss.length ∧ ∀ j, j < xss.length → w.cell? ⟨b, o + j, none⟩ = some (us j) ∧ Row w (us j) (xss.getD j [])
theorem RowS.old {w w' : World} {v : Value} {xss : List (List Int)} (h : RowS w v xss) (g : Old w w') : RowS w' v xss := by
  rcases h with h1 | ⟨b, o, cap, us, e, hb, h0, hc⟩
  · exact Or.inl h1
  · exact Or.inr ⟨b, o, cap, us, e, Nat.lt_of_lt_of_le hb g.size, h0, fun j hj => ⟨(g.cell (p := ⟨b, o + j, none⟩) hb).trans (hc j hj).1, (hc j hj).2.old g⟩⟩
theorem RowS.slice {w : World} {v : Value} {xss : List (List Int)} (h : RowS w v xss) : ∃ a cap, v = .slice a xss.length cap := by
  rcases h with ⟨a, cap, e, e2⟩ | ⟨b, o, cap, us, e, _⟩
  · exact ⟨a, cap, by rw [e, e2]; rfl⟩
  · exact ⟨_, cap, e⟩
def leftL : Int → List (List Int) → Int
  | left, [] => left
  | left, r :: rs => if leftN left r.length < 0 then -1 else leftL (leftN left r.length) rs
def leftSS (left : Int) (xss : List (List Int)) : Int := if left < (xss.length : Int) then -1 else leftL (left - xss.length) xss
theorem leftL_ok : ∀ (xss : List (List Int)) (left : Int), 0 ≤ left → ¬ leftL left xss < 0 → 0 ≤ leftL left xss ∧ leftL left xss ≤ left ∧ ∀ r ∈ xss, (r.length : Int) ≤ left
  | [], left, h0, h => ⟨h0, Int.le_refl _, by simp⟩
  | r :: rs, left, h0, h => by
    unfold leftL at h ⊢
    by_cases hr : leftN left r.length < 0
    · rw [if_pos hr] at h
      omega
    · rw [if_neg hr] at h ⊢
      obtain ⟨q1, q2, q3⟩ := leftN_ok hr h0
      obtain ⟨p1, p2, p3⟩ := leftL_ok rs _ q3 h
      refine ⟨p1, by omega, fun x hx => ?_⟩
      rcases List.mem_cons.1 hx with rfl | hx
      · exact q1
      · have := p3 x hx
        omega
theorem leftSS_ok {xss : List (List Int)} {left : Int} (h0 : 0 ≤ left) (h : ¬ leftSS left xss < 0) : 0 ≤ leftSS left xss ∧ leftSS left xss ≤ left ∧ (xss.length : Int) ≤ left ∧ ∀ r ∈ xss, (r.length : Int) ≤ left := by
  unfold leftSS at h ⊢
  by_cases hr : left < (xss.length : Int)
  · rw [if_pos hr] at h
    omega
  · rw [if_neg hr] at h ⊢
    obtain ⟨p1, p2, p3⟩ := leftL_ok xss _ (by omega) h
    exact ⟨p1, by omega, by omega, fun r hr => by have := p3 r hr; omega⟩
theorem drop_cons (xss : List (List Int)) (k : Nat) (h : k < xss.length) : xss.drop k = xss.getD k [] :: xss.drop (k + 1) := by
  rw [List.drop_eq_getElem_cons h]
  simp [List.getD, h]
theorem ret_ii {a b : Int} (h : a = b) : Ending.returned (.int .i64 a) = .returned (.int .i64 b) := by rw [h]
set_option maxRecDepth 100000 in
set_option maxHeartbeats 2000000 in
theorem szIntSS_any (xss : List (List Int)) (v : Value) (left : Int) (w : World) (hv : RowS w v xss) (hl : xss.length ≤ 9223372036854775807) (hr : ∀ r ∈ xss, r.length ≤ 9223372036854775807) (h0 : 0 ≤ left) (h1 : left ≤ 1048576) :
    Calls Tryz.prog 121 #[v, .int .i64 left] w fun e w' => e = .returned (.int .i64 (leftSS left xss)) ∧ Old w w' := by
  obtain ⟨a0, cap0, ev⟩ := hv.slice
  subst ev
  by_cases hb : left < (xss.length : Int)
  · have d : decide (left - (xss.length : Int) < 0) = true := by simp; omega
    have HB : Hid (leftSS left xss = -1) := by show _ = _; unfold leftSS; rw [if_pos hb]
    clear hv hr hb
    go_enter Tryz.func121, Tryz.ntmps121
    go_wp2_with fail
    go_ret
    exact ⟨ret_ii HB.out.symm, Old.refl _⟩
  · have d : decide (left - (xss.length : Int) < 0) = false := by simp; omega
    have HB : Hid (leftL (left - xss.length) (xss.drop 0) = leftSS left xss) := by show _ = _; unfold leftSS; rw [if_neg hb]; rfl
    have hl2 : 0 ≤ left - (xss.length : Int) ∧ left - (xss.length : Int) ≤ 1048576 := by omega
    generalize leftSS left xss = R at *
    have HR : Hid (∀ r ∈ xss, r.length ≤ 9223372036854775807) := hr
    have HV : Hid (RowS w (.slice a0 xss.length cap0) xss) := hv
    clear hv hr
    go_enter Tryz.func121, Tryz.ntmps121
    go_wp2_with fail
    go_loopw [5, 1] (fun i l W => ∃ (k : Nat) (z : Int), k ≤ xss.length ∧ i = .int .i64 k ∧ l = .int .i64 z ∧ 0 ≤ z ∧ z ≤ 1048576 ∧ Hid (leftL z (xss.drop k) = R) ∧ W = w) (fun i _ _ => xss.length - (intOf i).toNat)
    case atStart => exact ⟨0, left - xss.length, by omega, rfl, rfl, by omega, by omega, HB, rfl⟩
    case round =>
      obtain ⟨k, z, hk, rfl, rfl, z0, z1, H1, hW⟩ := hrel
      obtain rfl : w = wr := hW.symm
      clear HB d hW
      by_cases hlt : k < xss.length
      · have d1 : decide ((k : Int) < (xss.length : Int)) = true := by simp; omega
        rcases HV.out with ⟨a, cap, e, e2⟩ | ⟨b, o, cap, us, e, hb2, h3, hc⟩
        · subst e2
          simp at hlt
        simp only [Value.slice.injEq, true_and] at e
        obtain ⟨rfl, rfl⟩ := e
        obtain ⟨c1, r1⟩ := hc k hlt
        obtain ⟨a1, cap1, e1⟩ := r1.slice
        rw [e1] at c1
        have hm : xss.getD k [] ∈ xss := by simp [List.getD, hlt]
        have hrl := HR.out _ hm
        have H2 : Hid ((if leftN z (xss.getD k []).length < 0 then -1 else leftL (leftN z (xss.getD k []).length) (xss.drop (k + 1))) = R) := by
          have := H1.out
          rw [drop_cons xss k hlt] at this
          unfold leftL at this
          exact this
        have cz := fun W => szInts_any a1 (xss.getD k []).length cap1 z W hrl z0 z1
        clear hc r1 e1 H1 hm
        generalize (xss.getD k []).length = m at *
        by_cases hz : leftN z m < 0
        · have H3 : Hid (-1 = R) := by have := H2.out; rw [if_pos hz] at this; exact this
          have hz2 : z < (m : Int) := by
            unfold leftN at hz
            split at hz
            · assumption
            · omega
          rw [if_pos hz2] at cz
          clear H2 hz hz2
          go_wp2_with fail
          refine (cz _).mono ?_
          rintro e w1 ⟨rfl, hw1⟩
          obtain rfl : w = w1 := hw1.symm
          go_wp2_with fail
          go_ret
          exact ⟨ret_ii H3.out, Old.refl _⟩
        · have H3 : Hid (leftL (leftN z m) (xss.drop (k + 1)) = R) := by have := H2.out; rw [if_neg hz] at this; exact this
          obtain ⟨q1, q2, q3⟩ := leftN_ok hz z0
          rw [q2] at H3 q3
          rw [if_neg (by omega)] at cz
          have d2 : decide (z - (m : Int) < 0) = false := by simp; omega
          clear H2 hz q2
          go_wp2_with fail
          refine (cz _).mono ?_
          rintro e w1 ⟨rfl, hw1⟩
          obtain rfl : w = w1 := hw1.symm
          go_wp2_with fail
          exact ⟨⟨k + 1, z - m, by omega, by go_num, rfl, by omega, by omega, H3, by first | rfl | trivial⟩, by simp [intOf]; omega⟩
      · have d1 : decide ((k : Int) < (xss.length : Int)) = false := by simp; omega
        have H2 : Hid (z = R) := by
          have := H1.out
          rw [List.drop_eq_nil_of_le (by omega)] at this
          unfold leftL at this
          exact this
        clear H1
        go_wp2_with fail
        go_ret
        exact ⟨ret_ii H2.out, Old.refl _⟩
theorem Tryz.infoInts : (Tryz.prog.info? 22).map (fun i => (i.zero, i.size, i.bytes)) = some (some (.slice none 0 0), 1, 24) := by kernel_rfl
def OwS (xss : List (List Int)) (W : World) (lo hi : Nat) (v : Value) : Prop :=
  hi ≤ W.heap.size ∧ ((v = .slice none 0 0 ∧ xss = []) ∨ ∃ (p cap : Nat) (vs : List Value), v = .slice (some ⟨p, 0, none⟩) xss.length cap ∧ xss.length ≤ cap ∧ lo ≤ p ∧ p < hi ∧ W.ownsRow lo 22 1 (.slice (some ⟨p, 0, none⟩) xss.length cap) xss.length vs ∧ vs.length = xss.length
    ∧ (∀ j, j < xss.length → ∃ a c, vs[j]? = some (.slice a (xss.getD j []).length c) ∧ (xss.getD j []).length ≤ c ∧ OwI (xss.getD j []) W lo hi (.slice a (xss.getD j []).length c) ∧ (∀ b, (Value.slice a (xss.getD j []).length c).ownBlock = some b → b ≠ p))
    ∧ (∀ (i j : Nat) (x y : Value) (b : Nat), i < j → vs[i]? = some x → vs[j]? = some y → x.ownBlock = some b → y.ownBlock = some b → False))
set_option maxRecDepth 100000 in
set_option maxHeartbeats 2000000 in
theorem toIntSS_any (xss : List (List Int)) (v : Value) (w : World) (hv : RowS w v xss) (hl : xss.length ≤ 1048576) (hr : ∀ r ∈ xss, r.length ≤ 1048576) :
    Calls Tryz.prog 123 #[v] w fun e w' => ∃ v', e = .returned v' ∧ Old w w' ∧ OwS xss w' w.heap.size w'.heap.size v' ∧ ∃ a c, v' = .slice a xss.length c := by
  obtain ⟨i0, hi, hz0, hz1, hz2⟩ := info_parts Tryz.infoInts
  obtain ⟨a0, cap0, ev⟩ := hv.slice
  subst ev
  have HR : Hid (∀ r ∈ xss, r.length ≤ 1048576) := hr
  have HV : Hid (RowS w (.slice a0 xss.length cap0) xss) := hv
  clear hv hr
  go_enter Tryz.func123, Tryz.ntmps123
  go_wp2_with (at_make; refine wpList_make_full _ rfl _ _ 93 rfl w.heap.size 22 i0 (.slice none 0 0) 1 Tryz.underlying93 hi hz0 hz1 .i64 .i64 _ _ xss.length rfl rfl rfl rfl (by rw [hz2]; omega) (by unfold maxLen; omega) (Nat.le_refl _) ?_; intro w1 hown hgrow)
  have hmade : (madeCells (Value.slice none 0 0).cells (xss.length * 1)).toList = List.replicate xss.length (Value.slice none 0 0) := by
    rw [Nat.mul_one]
    exact toList_madeCells_one (.slice none 0 0) xss.length
  rw [hmade] at hown
  have HO : Hid (w1.ownsRow w.heap.size 22 1 (.slice (some ⟨w.heap.size, 0, none⟩) xss.length xss.length) xss.length (List.replicate xss.length (Value.slice none 0 0))) := hown
  have HG : Hid (Old w w1) := Below.grown (Below.refl _ _) hgrow (Nat.le_refl _) (fun _ h => by cases h)
  have hs1 : w.heap.size < w1.heap.size := (hown.lt w.heap.size rfl).2
  clear hown hgrow hmade
  go_loopw [4] (fun i W => ∃ (k : Nat) (vs : List Value), k ≤ xss.length ∧ i = .int .i64 k ∧ Hid (W.ownsRow w.heap.size 22 1 (.slice (some ⟨w.heap.size, 0, none⟩) xss.length xss.length) xss.length vs) ∧ Hid (vs.length = xss.length) ∧ Hid (Old w W)
    ∧ Hid (∀ j, j < k → ∃ a c, vs[j]? = some (.slice a (xss.getD j []).length c) ∧ (xss.getD j []).length ≤ c ∧ OwI (xss.getD j []) W w.heap.size W.heap.size (.slice a (xss.getD j []).length c) ∧ (∀ b, (Value.slice a (xss.getD j []).length c).ownBlock = some b → b ≠ w.heap.size))
    ∧ Hid (∀ (i j : Nat) (x y : Value) (b : Nat), i < j → j < k → vs[i]? = some x → vs[j]? = some y → x.ownBlock = some b → y.ownBlock = some b → False)) (fun i _ => xss.length - (intOf i).toNat)
  case atStart => exact ⟨0, _, by omega, rfl, HO, by show _ = _; simp, HG, fun j hj => by omega, fun i j x y b h1 h2 => by omega⟩
  case round =>
    obtain ⟨k, vs, hk, rfl, H1, HL, HG1, H2, H3⟩ := hrel
    clear HO HG
    by_cases hlt : k < xss.length
    · have d1 : decide ((k : Int) < (xss.length : Int)) = true := by simp; omega
      rcases HV.out with ⟨a, cap, e, e2⟩ | ⟨b, o, cap, us, e, hb2, h3, hc⟩
      · subst e2
        simp at hlt
      simp only [Value.slice.injEq, true_and] at e
      obtain ⟨rfl, rfl⟩ := e
      obtain ⟨c0, r0⟩ := hc k hlt
      have hm : xss.getD k [] ∈ xss := by simp [List.getD, hlt]
      have hrl := HR.out _ hm
      obtain ⟨a1, cap1, e1⟩ := r0.slice
      rw [e1] at c0 r0
      have c1 : wr.cell? ⟨b, o + k, none⟩ = some (.slice a1 (xss.getD k []).length cap1) := (HG1.out.cell (p := ⟨b, o + k, none⟩) hb2).trans c0
      have HR1 : Hid (Row wr (.slice a1 (xss.getD k []).length cap1) (xss.getD k [])) := r0.old HG1.out
      obtain ⟨xs, hxs⟩ : ∃ xs, xss.getD k [] = xs := ⟨_, rfl⟩
      have HXS : Hid (xss.getD k [] = xs) := hxs
      rw [hxs] at c1 HR1 hrl
      clear hc c0 r0 e1 hm hxs
      go_wp2_with fail
      refine (toInts_any xs _ _ HR1.out hrl).mono ?_
      rintro e w2 ⟨rfl, g2, o2⟩
      have hsr : w.heap.size < wr.heap.size := (H1.out.lt w.heap.size rfl).2
      have H4 : Hid (w2.ownsRow w.heap.size 22 1 (.slice (some ⟨w.heap.size, 0, none⟩) xss.length xss.length) xss.length vs) := by
        refine ⟨H1.out.1, ?_⟩
        rcases H1.out.2 with hn | ⟨p, cap', cur, e, hb', hgg, rest⟩
        · exact .inl hn
        · refine .inr ⟨p, cap', cur, e, hb', ?_, rest⟩
          rw [g2.block p (Array.getElem?_eq_some_iff.1 hgg).1]
          exact hgg
      have hvl : vs.length = xss.length := HL.out
      obtain ⟨y, hy⟩ : ∃ y, vs[k]? = some y := ⟨vs[k]'(by omega), List.getElem?_eq_getElem (by omega)⟩
      have c2 : w2.cell? ⟨w.heap.size, k, none⟩ = some y := by
        rw [World.ownsRow.cellAt H4.out k (by omega)]
        exact hy
      have c3 : w2.frozen? ⟨w.heap.size, k, none⟩ = false := World.ownsRow.frozenAt H4.out k
      have H5 : Hid ((w2.setCell ⟨w.heap.size, k, none⟩ (.slice (some ⟨wr.heap.size, 0, none⟩) xs.length xs.length)).ownsRow w.heap.size 22 1 (.slice (some ⟨w.heap.size, 0, none⟩) xss.length xss.length) xss.length (vs.set k (.slice (some ⟨wr.heap.size, 0, none⟩) xs.length xs.length))) := (World.ownsRow.stored H4.out k (.slice (some ⟨wr.heap.size, 0, none⟩) xs.length xs.length)).1
      have HG2 : Hid (Old w w2) := Old.trans HG1.out g2
      have HG3 : Hid (Old w (w2.setCell ⟨w.heap.size, k, none⟩ (.slice (some ⟨wr.heap.size, 0, none⟩) xs.length xs.length))) := HG2.out.own (Nat.le_refl _) _
      have hfar : ∀ bb, w.heap.size < bb → (w2.setCell ⟨w.heap.size, k, none⟩ (.slice (some ⟨wr.heap.size, 0, none⟩) xs.length xs.length)).heap[bb]? = w2.heap[bb]? := fun bb hbb => heap_setCell_other _ _ _ _ (by show bb ≠ w.heap.size; omega)
      have hsz : (w2.setCell ⟨w.heap.size, k, none⟩ (.slice (some ⟨wr.heap.size, 0, none⟩) xs.length xs.length)).heap.size = w2.heap.size := by simp
      have hown3 : Own (w2.setCell ⟨w.heap.size, k, none⟩ (.slice (some ⟨wr.heap.size, 0, none⟩) xs.length xs.length)) w.heap.size (.slice (some ⟨wr.heap.size, 0, none⟩) xs.length xs.length) xs := Own.low (ownsRow_setCell_other o2 (by simp [Value.ownBlock]; omega) _) (by omega)
      have H6 : Hid (∀ j, j < k + 1 → ∃ a c, (vs.set k (.slice (some ⟨wr.heap.size, 0, none⟩) xs.length xs.length))[j]? = some (.slice a (xss.getD j []).length c) ∧ (xss.getD j []).length ≤ c ∧ OwI (xss.getD j []) (w2.setCell ⟨w.heap.size, k, none⟩ (.slice (some ⟨wr.heap.size, 0, none⟩) xs.length xs.length)) w.heap.size (w2.setCell ⟨w.heap.size, k, none⟩ (.slice (some ⟨wr.heap.size, 0, none⟩) xs.length xs.length)).heap.size (.slice a (xss.getD j []).length c) ∧ (∀ b, (Value.slice a (xss.getD j []).length c).ownBlock = some b → b ≠ w.heap.size)) := fun j hj => by
        rcases Nat.lt_or_ge j k with hjk | hjk
        · obtain ⟨a, c, h1, h2, h3, h4⟩ := H2.out j hjk
          refine ⟨a, c, ?_, h2, ?_, h4⟩
          · rw [List.getElem?_set_ne (by omega)]
            exact h1
          · have h5 : Own w2 w.heap.size (.slice a (xss.getD j []).length c) (xss.getD j []) := h3.1.old g2
            refine ⟨?_, Nat.le_refl _, fun b hb => ?_⟩
            · exact ownsRow_setCell_other h5 (fun e => h4 _ e rfl) _
            · rw [hsz]
              exact (h5.lt b hb).2
        · obtain rfl : j = k := by omega
          rw [HXS.out]
          refine ⟨_, _, ?_, Nat.le_refl _, ⟨hown3, Nat.le_refl _, fun b hb => (hown3.lt b hb).2⟩, fun b hb => ?_⟩
          · rw [List.getElem?_set_self (by omega)]
          · simp [Value.ownBlock] at hb
            omega
      have H7 : Hid (∀ (i j : Nat) (x y : Value) (b : Nat), i < j → j < k + 1 → (vs.set k (.slice (some ⟨wr.heap.size, 0, none⟩) xs.length xs.length))[i]? = some x → (vs.set k (.slice (some ⟨wr.heap.size, 0, none⟩) xs.length xs.length))[j]? = some y → x.ownBlock = some b → y.ownBlock = some b → False) := fun i j x y b hij hjk hx hy' hbx hby => by
        rcases Nat.lt_or_ge j k with hjk2 | hjk2
        · rw [List.getElem?_set_ne (by omega)] at hx hy'
          exact H3.out i j x y b hij hjk2 hx hy' hbx hby
        · obtain rfl : j = k := by omega
          rw [List.getElem?_set_ne (by omega)] at hx
          rw [List.getElem?_set_self (by omega)] at hy'
          obtain ⟨a, c, h1, h2, h3, h4⟩ := H2.out i hij
          rw [h1] at hx
          obtain rfl := Option.some.inj hx
          obtain rfl := Option.some.inj hy'
          simp [Value.ownBlock] at hby
          have := h3.2.2 b hbx
          omega
      have H8 : Hid ((vs.set k (.slice (some ⟨wr.heap.size, 0, none⟩) xs.length xs.length)).length = xss.length) := by show _ = _; simp [hvl]
      clear H1 H2 H3 HL H4 hfar hsz hown3 g2 o2 hy hvl
      go_wp2_with fail
      exact ⟨⟨k + 1, _, by omega, by go_num, H5, H8, HG3, H6, H7⟩, by simp [intOf]; omega⟩
    · have d1 : decide ((k : Int) < (xss.length : Int)) = false := by simp; omega
      obtain rfl : k = xss.length := by omega
      go_wp2_with fail
      go_ret
      refine ⟨_, rfl, HG1.out, ⟨Nat.le_refl _, Or.inr ⟨w.heap.size, xss.length, vs, rfl, Nat.le_refl _, Nat.le_refl _, (H1.out.lt w.heap.size rfl).2, H1.out, HL.out, H2.out, fun i j x y b hij hx hy => ?_⟩⟩, _, _, rfl⟩
      have hj : j < xss.length := by
        have := HL.out
        have h4 := (List.getElem?_eq_some_iff.1 hy).1
        omega
      exact H3.out i j x y b hij hj hx hy
end Go.Proofs.YtakleianimcmdaaGreatDoor
/- Proved: rows of rows as a law carries them: comparisons, and rows with their mark. -/
namespace Go.Proofs.YtakleianimcmdaaGreatDoor
open Go.ChangeShapes Go.WideShapes Go.ChangeAt Go.RowKit
set_option linter.unusedVariables false
set_option linter.unusedSimpArgs false
theorem OwS.rowS {xss : List (List Int)} {W : World} {lo hi : Nat} {v : Value} (h : OwS xss W lo hi v) : RowS W v xss := by
  obtain ⟨hh, h | ⟨p, cap, vs, rfl, hcap, hlo, hhi, ho, hvl, hj, hd⟩⟩ := h
  · obtain ⟨rfl, rfl⟩ := h
    exact Or.inl ⟨_, _, rfl, rfl⟩
  · rcases Nat.eq_zero_or_pos xss.length with h0 | h0
    · obtain rfl := List.length_eq_zero_iff.1 h0
      exact Or.inl ⟨_, _, rfl, rfl⟩
    · refine Or.inr ⟨p, 0, cap, fun j => vs.getD j (.slice none 0 0), rfl, by omega, h0, fun j hjl => ?_⟩
      obtain ⟨a, c, e, hc, o, hb⟩ := hj j hjl
      have e2 : vs.getD j (.slice none 0 0) = .slice a (xss.getD j []).length c := by simp [List.getD, e]
      show W.cell? ⟨p, 0 + j, none⟩ = some (vs.getD j (.slice none 0 0)) ∧ Row W (vs.getD j (.slice none 0 0)) _
      rw [e2]
      refine ⟨?_, o.row⟩
      rw [Nat.zero_add, World.ownsRow.cellAt ho j (by omega)]
      exact e
theorem far_OwS (xss : List (List Int)) : Far (OwS xss) := fun W W' lo hi v h hf hs => by
  obtain ⟨hh, h | ⟨p, cap, vs, e, hcap, hlo, hhi, ho, hvl, hj, hd⟩⟩ := h
  · exact ⟨by omega, Or.inl h⟩
  · refine ⟨by omega, Or.inr ⟨p, cap, vs, e, hcap, hlo, hhi, ⟨ho.1, ?_⟩, hvl, fun j hjl => ?_, hd⟩⟩
    · rcases ho.2 with hn | ⟨p', cap', cur, e', hb', hgg, rest⟩
      · exact .inl hn
      · refine .inr ⟨p', cap', cur, e', hb', ?_, rest⟩
        have : p' = p := by
          simp only [Value.slice.injEq, Option.some.injEq, Addr.mk.injEq] at e'
          exact e'.1.1.symm
        subst this
        rw [hf p' hlo hhi]
        exact hgg
    · obtain ⟨a, c, e1, hc, o, hb⟩ := hj j hjl
      exact ⟨a, c, e1, hc, far_OwI _ W W' lo hi _ o hf hs, hb⟩
set_option maxRecDepth 100000 in
set_option maxHeartbeats 2000000 in
theorem eqIntSS_yes (xss : List (List Int)) (v u : Value) (w : World) (hv : RowS w v xss) (hu : RowS w u xss) (hl : xss.length ≤ 1048576) (hr : ∀ r ∈ xss, r.length ≤ 1048576) :
    Calls Tryz.prog 129 #[v, u] w fun e w' => e = .returned (.bool true) ∧ Old w w' := by
  obtain ⟨a0, cap0, ev⟩ := hv.slice
  obtain ⟨a1, cap1, eu⟩ := hu.slice
  subst ev eu
  have HR : Hid (∀ r ∈ xss, r.length ≤ 1048576) := hr
  have HV : Hid (RowS w (.slice a0 xss.length cap0) xss) := hv
  have HU : Hid (RowS w (.slice a1 xss.length cap1) xss) := hu
  have dn : ((xss.length : Int) != (xss.length : Int)) = false := by simp
  clear hv hu hr
  go_enter Tryz.func129, Tryz.ntmps129
  go_wp2_with fail
  go_loopw [5] (fun i W => ∃ k : Nat, k ≤ xss.length ∧ i = .int .i64 k ∧ Hid (Old w W)) (fun i _ => xss.length - (intOf i).toNat)
  case atStart => exact ⟨0, by omega, rfl, Old.refl _⟩
  case round =>
    obtain ⟨k, hk, rfl, HG⟩ := hrel
    by_cases hlt : k < xss.length
    · have d1 : decide ((k : Int) < (xss.length : Int)) = true := by simp; omega
      rcases HV.out with ⟨a, cap, e, e2⟩ | ⟨b, o, cap, us, e, hb2, h3, hc⟩
      · subst e2
        simp at hlt
      rcases HU.out with ⟨a', cap', e', e2'⟩ | ⟨b', o', cap', us', e', hb2', h3', hc'⟩
      · subst e2'
        simp at hlt
      simp only [Value.slice.injEq, true_and] at e e'
      obtain ⟨rfl, rfl⟩ := e
      obtain ⟨rfl, rfl⟩ := e'
      obtain ⟨c0, r0⟩ := hc k hlt
      obtain ⟨c0', r0'⟩ := hc' k hlt
      have hm : xss.getD k [] ∈ xss := by simp [List.getD, hlt]
      have hrl := HR.out _ hm
      obtain ⟨x1, y1, e1⟩ := r0.slice
      obtain ⟨x2, y2, e3⟩ := r0'.slice
      rw [e1] at c0 r0
      rw [e3] at c0' r0'
      have q1 : wr.cell? ⟨b, o + k, none⟩ = some (.slice x1 (xss.getD k []).length y1) := (HG.out.cell (p := ⟨b, o + k, none⟩) hb2).trans c0
      have q2 : wr.cell? ⟨b', o' + k, none⟩ = some (.slice x2 (xss.getD k []).length y2) := (HG.out.cell (p := ⟨b', o' + k, none⟩) hb2').trans c0'
      have R1 : Hid (Row wr (.slice x1 (xss.getD k []).length y1) (xss.getD k [])) := r0.old HG.out
      have R2 : Hid (Row wr (.slice x2 (xss.getD k []).length y2) (xss.getD k [])) := r0'.old HG.out
      have hbr : b < wr.heap.size := Nat.lt_of_lt_of_le hb2 HG.out.size
      have hbr' : b' < wr.heap.size := Nat.lt_of_lt_of_le hb2' HG.out.size
      generalize xss.getD k [] = xs at *
      have HAS : Hid (∀ W' : World, Old wr W' → (W'.cell? ⟨b, o + k, none⟩ = some (.slice x1 xs.length y1) ∧ W'.cell? ⟨b', o' + k, none⟩ = some (.slice x2 xs.length y2))) := fun W' g => ⟨(g.cell (p := ⟨b, o + k, none⟩) hbr).trans q1, (g.cell (p := ⟨b', o' + k, none⟩) hbr').trans q2⟩
      clear hc hc' c0 c0' r0 r0' e1 e3 hm
      go_wp2_with fail
      go_region_held3 (fun W' => W'.cell? ⟨b, o + k, none⟩ = some (.slice x1 xs.length y1) ∧ W'.cell? ⟨b', o' + k, none⟩ = some (.slice x2 xs.length y2)) (first | with_reducible exact HAS.out _ GE.out | with_reducible exact HAS.out _ (Below.drew (Old.refl wr)) | with_reducible exact HAS.out _ (Old.refl wr)) (first
        | (go_at_call 32; refine (eqInts_yes xs _ _ _ (R1.out.old (Below.drew (Old.refl wr))) (R2.out.old (Below.drew (Old.refl wr))) (by omega)).mono ?_; rintro e w2 ⟨rfl, ge⟩; have GE : Hid (Old wr w2) := Old.trans (Below.drew (Old.refl wr)) ge; clear ge)
        | fail)
      have HG2 : Hid (Old w w2) := Old.trans HG.out GE.out
      go_wp2_with fail
      exact ⟨⟨k + 1, by omega, by go_num, HG2⟩, by simp [intOf]; omega⟩
    · have d1 : decide ((k : Int) < (xss.length : Int)) = false := by simp; omega
      go_wp2_with fail
      go_ret
      exact ⟨rfl, HG.out⟩
theorem OwS.slice {xss : List (List Int)} {W : World} {lo hi : Nat} {v : Value} (h : OwS xss W lo hi v) : ∃ a c, v = .slice a xss.length c := h.rowS.slice
theorem OwS.low {xss : List (List Int)} {W : World} {lo lo' hi : Nat} {v : Value} (h : OwS xss W lo hi v) (hl : lo' ≤ lo) : OwS xss W lo' hi v := by
  obtain ⟨hh, h | ⟨p, cap, vs, e, hcap, hlo, hhi, ho, hvl, hj, hd⟩⟩ := h
  · exact ⟨hh, Or.inl h⟩
  · refine ⟨hh, Or.inr ⟨p, cap, vs, e, hcap, by omega, hhi, ⟨ho.1, ?_⟩, hvl, fun j hjl => ?_, hd⟩⟩
    · rcases ho.2 with hn | ⟨p', cap', cur, e', hb', rest⟩
      · exact .inl hn
      · exact .inr ⟨p', cap', cur, e', by omega, rest⟩
    · obtain ⟨a, c, e1, hc, o, hb⟩ := hj j hjl
      exact ⟨a, c, e1, hc, ⟨Own.low o.1 hl, o.2.1, o.2.2⟩, hb⟩
theorem OwS.high {xss : List (List Int)} {W : World} {lo hi hi' : Nat} {v : Value} (h : OwS xss W lo hi v) (hl : hi ≤ hi') (hs : hi' ≤ W.heap.size) : OwS xss W lo hi' v := by
  obtain ⟨hh, h | ⟨p, cap, vs, e, hcap, hlo, hhi, ho, hvl, hj, hd⟩⟩ := h
  · exact ⟨hs, Or.inl h⟩
  · refine ⟨hs, Or.inr ⟨p, cap, vs, e, hcap, hlo, by omega, ho, hvl, fun j hjl => ?_, hd⟩⟩
    obtain ⟨a, c, e1, hc, o, hb⟩ := hj j hjl
    exact ⟨a, c, e1, hc, ⟨o.1, hs, fun b hb => by have := o.2.2 b hb; omega⟩, hb⟩
end Go.Proofs.YtakleianimcmdaaGreatDoor
/- Proved: whether rows are as they should be, as the model tells it. -/
namespace Go.Proofs.YtakleianimcmdaaGreatDoor
open Go.ChangeShapes Go.WideShapes Go.ChangeAt Go.RowKit
open M1
set_option linter.unusedVariables false
set_option linter.unusedSimpArgs false
def rwA (N : Int) (ps : List Int) (xss : List (List Int)) (k : Nat) : Bool := decide (∀ i, i < ps.length → k ≤ i → polyB (ps.getD i 0) N (xss.getD i []) = true)
theorem rwA_end {N : Int} {ps : List Int} {xss : List (List Int)} {k : Nat} (h : ps.length ≤ k) : rwA N ps xss k = true := decide_eq_true (fun i h1 h2 => by omega)
theorem rwA_no {N : Int} {ps : List Int} {xss : List (List Int)} {k : Nat} (h : k < ps.length) (hk : polyB (ps.getD k 0) N (xss.getD k []) = false) : rwA N ps xss k = false :=
  decide_eq_false (fun f => by rw [f k h (Nat.le_refl _)] at hk; cases hk)
theorem rwA_yes {N : Int} {ps : List Int} {xss : List (List Int)} {k : Nat} (hk : polyB (ps.getD k 0) N (xss.getD k []) = true) : rwA N ps xss k = rwA N ps xss (k + 1) := by
  unfold rwA
  apply decide_eq_decide.2
  constructor
  · exact fun f i h1 h2 => f i h1 (by omega)
  · intro f i h1 h2
    rcases Nat.eq_or_lt_of_le h2 with e | e
    · subst e
      exact hk
    · exact f i h1 e
def rwB (N : Int) (ps : List Int) (xss : List (List Int)) : Bool := decide (xss.length = ps.length) && rwA N ps xss 0
set_option maxRecDepth 100000 in
set_option maxHeartbeats 2000000 in
theorem spec_l5Rows (N : Int) (ps : List Int) (xss : List (List Int)) (v u : Value) (w : World) (hv : Row w v ps) (hu : RowS w u xss) (hl : xss.length ≤ 1048576) (hr : ∀ r ∈ xss, r.length ≤ 1048576) (hs : spB N ps = true) :
    Calls Tryz.prog 122 #[.agg #[.int .i64 N, v], u] w fun e w' => e = .returned (.bool (rwB N ps xss)) ∧ Old w w' := by
  obtain ⟨hz, hbb, hring⟩ := sp_ring hs
  have hlen := (bas_at hbb).1
  have HPM : Hid (∀ k, k < ps.length → pmB (ps.getD k 0) = true) := (bas_at hbb).2
  have HR : Hid (∀ r ∈ xss, r.length ≤ 1048576) := hr
  obtain ⟨a0, cap0, ev⟩ := hv.slice
  obtain ⟨a1, cap1, eu⟩ := hu.slice
  subst ev eu
  have HV : Hid (Row w (.slice a0 ps.length cap0) ps) := hv
  have HU : Hid (RowS w (.slice a1 xss.length cap1) xss) := hu
  have hN : 2 ≤ N ∧ N ≤ 16 := by omega
  clear hv hu hr hring hbb hz hs
  by_cases hn : xss.length = ps.length
  · have HB : Hid (rwA N ps xss 0 = rwB N ps xss) := by show _ = _; unfold rwB; rw [decide_eq_true hn]; rfl
    have dn : ((xss.length : Int) != (ps.length : Int)) = false := by simp; omega
    generalize rwB N ps xss = B at *
    rcases HV.out with ⟨a, cap, e, e2⟩ | ⟨b, o, cap, e, hb, h1, hc⟩
    · subst e2
      simp at hlen
    simp only [Value.slice.injEq, true_and] at e
    obtain ⟨rfl, rfl⟩ := e
    rcases HU.out with ⟨a, cap, e, e2⟩ | ⟨b', o', cap, us, e, hb', h1', hc'⟩
    · subst e2
      simp at hn
      omega
    simp only [Value.slice.injEq, true_and] at e
    obtain ⟨rfl, rfl⟩ := e
    have HC : Hid (∀ j, j < ps.length → w.cell? ⟨b, o + j, none⟩ = some (.int .i64 (ps.getD j 0))) := hc
    have HC' : Hid (∀ j, j < xss.length → w.cell? ⟨b', o' + j, none⟩ = some (us j) ∧ Row w (us j) (xss.getD j [])) := hc'
    have HNN : Hid (xss.length = ps.length) := hn
    clear hc hc' hn
    have HN : Hid (Old w (w.alloc (.cells #[.int .i64 N, .slice (some ⟨b, o, none⟩) ps.length cap0] 97))) := (Old.refl w).alloc _
    go_enter Tryz.func122, Tryz.ntmps122
    go_wp2_with fail
    go_loopw [16] (fun i W => ∃ k : Nat, k ≤ ps.length ∧ i = .int .i64 k ∧ Hid (rwA N ps xss k = B) ∧ Hid (Old (w.alloc (.cells #[.int .i64 N, .slice (some ⟨b, o, none⟩) ps.length cap0] 97)) W)) (fun i _ => ps.length - (intOf i).toNat)
    case atStart => exact ⟨0, by omega, rfl, HB, Old.refl _⟩
    case round =>
      obtain ⟨k, hk, rfl, H1, HG⟩ := hrel
      clear HB
      have HGw : Hid (Old w wr) := Old.trans HN.out HG.out
      have hsw : w.heap.size < wr.heap.size := by have := HG.out.size; simp at this; omega
      by_cases hlt : k < ps.length
      · have d1 : decide ((k : Int) < (ps.length : Int)) = true := by simp; omega
        have hx := HNN.out
        have d2 : decide ((k : Int) < (xss.length : Int)) = true := by simp; omega
        have hkx : k < xss.length := by omega
        have c1 : wr.cell? ⟨b, o + k, none⟩ = some (.int .i64 (ps.getD k 0)) := (HGw.out.cell (p := ⟨b, o + k, none⟩) hb).trans (HC.out k hlt)
        obtain ⟨c2, r2⟩ := HC'.out k hkx
        obtain ⟨x1, y1, e1⟩ := r2.slice
        rw [e1] at c2 r2
        have hp := pm_bd (HPM.out k hlt)
        have hm : xss.getD k [] ∈ xss := by simp [List.getD, hkx]
        have hrl := HR.out _ hm
        have c3 : wr.cell? ⟨b', o' + k, none⟩ = some (.slice x1 (xss.getD k []).length y1) := (HGw.out.cell (p := ⟨b', o' + k, none⟩) hb').trans c2
        have R3 : Hid (Row wr (.slice x1 (xss.getD k []).length y1) (xss.getD k [])) := r2.old HGw.out
        have s0 : wr.cell? ⟨w.heap.size, 0, none⟩ = some (.int .i64 N) := (HG.out.cell (p := ⟨w.heap.size, 0, none⟩) (by simp)).trans (cell_at _ _ _ _ _ rfl)
        have HY : Hid (polyB (ps.getD k 0) N (xss.getD k []) = true → rwA N ps xss (k + 1) = B) := fun h => by have := H1.out; rw [rwA_yes h] at this; exact this
        have HNo : Hid (polyB (ps.getD k 0) N (xss.getD k []) = false → false = B) := fun h => by have := H1.out; rw [rwA_no hlt h] at this; exact this
        generalize xss.getD k [] = xs at *
        generalize ps.getD k 0 = p at *
        have cp := fun W (h : Row W (.slice x1 xs.length y1) xs) => spec_poly p N 0 xs _ W h (by omega) hp
        obtain ⟨q, hq⟩ : ∃ q, polyB p N xs = q := ⟨_, rfl⟩
        rw [hq] at cp HY HNo
        have hbr : b < wr.heap.size := Nat.lt_of_lt_of_le hb HGw.out.size
        have hbr' : b' < wr.heap.size := Nat.lt_of_lt_of_le hb' HGw.out.size
        have HAS : Hid (∀ W' : World, Old wr W' → (W'.cell? ⟨w.heap.size, 0, none⟩ = some (.int .i64 N) ∧ W'.cell? ⟨b', o' + k, none⟩ = some (.slice x1 xs.length y1))) := fun W' g => ⟨(g.cell (p := ⟨w.heap.size, 0, none⟩) hsw).trans s0, (g.cell (p := ⟨b', o' + k, none⟩) hbr').trans c3⟩
        clear H1 c2 r2 e1 hm hq hx
        cases q
        · have H3 : Hid (false = B) := HNo.out rfl
          clear HY HNo
          go_wp2_with fail
          go_region_held3 (fun W' => W'.cell? ⟨w.heap.size, 0, none⟩ = some (.int .i64 N) ∧ W'.cell? ⟨b', o' + k, none⟩ = some (.slice x1 xs.length y1)) (first | with_reducible exact HAS.out _ GE.out | with_reducible exact HAS.out _ (Below.drew (Old.refl wr)) | with_reducible exact HAS.out _ (Old.refl wr)) (first
            | (go_at_call 135; refine (cp _ (R3.out.old (Below.drew (Old.refl wr)))).mono ?_; rintro e w2 ⟨rfl, ge⟩; have GE : Hid (Old wr w2) := Old.trans (Below.drew (Old.refl wr)) ge; clear ge)
            | fail)
          have HG2 : Hid (Old w w2) := Old.trans HGw.out GE.out
          go_wp2_with fail
          go_ret
          exact ⟨ret_bb H3.out, HG2.out⟩
        · have H3 : Hid (rwA N ps xss (k + 1) = B) := HY.out rfl
          clear HY HNo
          go_wp2_with fail
          go_region_held3 (fun W' => W'.cell? ⟨w.heap.size, 0, none⟩ = some (.int .i64 N) ∧ W'.cell? ⟨b', o' + k, none⟩ = some (.slice x1 xs.length y1)) (first | with_reducible exact HAS.out _ GE.out | with_reducible exact HAS.out _ (Below.drew (Old.refl wr)) | with_reducible exact HAS.out _ (Old.refl wr)) (first
            | (go_at_call 135; refine (cp _ (R3.out.old (Below.drew (Old.refl wr)))).mono ?_; rintro e w2 ⟨rfl, ge⟩; have GE : Hid (Old wr w2) := Old.trans (Below.drew (Old.refl wr)) ge; clear ge)
            | fail)
          have HG2 : Hid (Old (w.alloc (.cells #[.int .i64 N, .slice (some ⟨b, o, none⟩) ps.length cap0] 97)) w2) := Old.trans HG.out GE.out
          go_wp2_with fail
          exact ⟨⟨k + 1, by omega, by go_num, H3, HG2⟩, by simp [intOf]; omega⟩
      · have d1 : decide ((k : Int) < (ps.length : Int)) = false := by simp; omega
        have H2 : Hid (true = B) := by have := H1.out; rw [rwA_end (by omega)] at this; exact this
        clear H1
        go_wp2_with fail
        go_ret
        exact ⟨ret_bb H2.out, HGw.out⟩
  · have HB : Hid (false = rwB N ps xss) := by show _ = _; unfold rwB; rw [decide_eq_false hn]; rfl
    have dn : ((xss.length : Int) != (ps.length : Int)) = true := by simp; omega
    generalize rwB N ps xss = B at *
    clear hn
    go_enter Tryz.func122, Tryz.ntmps122
    go_wp2_with fail
    go_ret
    exact ⟨ret_bb HB.out, (Old.refl w).alloc _⟩
end Go.Proofs.YtakleianimcmdaaGreatDoor
/- Proved: rows of rows as a law carries them: marks. -/
namespace Go.Proofs.YtakleianimcmdaaGreatDoor
open Go.ChangeShapes Go.WideShapes Go.ChangeAt Go.RowKit
set_option linter.unusedVariables false
set_option linter.unusedSimpArgs false
def offL : List (List Int) → Nat → Nat
  | [], _ => 0
  | _ :: _, 0 => 0
  | r :: rs, j + 1 => r.length + offL rs j
theorem offL_zero (xss : List (List Int)) : offL xss 0 = 0 := by cases xss <;> rfl
theorem offL_succ : ∀ (xss : List (List Int)) (j : Nat), j < xss.length → offL xss (j + 1) = offL xss j + (xss.getD j []).length
  | [], j, h => by simp at h
  | r :: rs, 0, h => by
    show r.length + offL rs 0 = 0 + _
    rw [offL_zero]
    simp
  | r :: rs, j + 1, h => by
    have := offL_succ rs j (by simpa using h)
    show r.length + offL rs (j + 1) = r.length + offL rs j + _
    rw [this]
    simp [List.getD]
    omega
theorem offL_le : ∀ (xss : List (List Int)) (j : Nat), offL xss j ≤ offL xss xss.length
  | [], j => by simp [offL]
  | r :: rs, 0 => by simp [offL]
  | r :: rs, j + 1 => by
    have := offL_le rs j
    show r.length + offL rs j ≤ r.length + offL rs rs.length
    omega
def OwM (k : Int) (xss : List (List Int)) (W : World) (lo hi : Nat) (v : Value) : Prop :=
  ∃ yss : List (List Int), yss.length = xss.length ∧ (∀ j, j < xss.length → yss.getD j [] = marks (k + offL xss j) (xss.getD j []).length) ∧ OwS yss W lo hi v
theorem far_OwM (k : Int) (xss : List (List Int)) : Far (OwM k xss) := fun W W' lo hi v h hf hs => by
  obtain ⟨yss, h1, h2, h3⟩ := h
  exact ⟨yss, h1, h2, far_OwS yss W W' lo hi v h3 hf hs⟩
theorem OwM.slice {k : Int} {xss : List (List Int)} {W : World} {lo hi : Nat} {v : Value} (h : OwM k xss W lo hi v) : ∃ a c, v = .slice a xss.length c := by
  obtain ⟨yss, h1, h2, h3⟩ := h
  obtain ⟨a, c, e⟩ := h3.slice
  exact ⟨a, c, by rw [e, h1]⟩
end Go.Proofs.YtakleianimcmdaaGreatDoor
/- Proved: rows of rows of rows as a law carries them: sizes, copies, comparisons. -/
namespace Go.Proofs.YtakleianimcmdaaGreatDoor
open Go.ChangeShapes Go.WideShapes Go.ChangeAt Go.RowKit
set_option linter.unusedVariables false
set_option linter.unusedSimpArgs false
def RowT (w : World) (v : Value) (xsss : List (List (List Int))) : Prop :=
  (∃ a cap, v = .slice a 0 cap ∧ xsss = []) ∨ ∃ b o cap, ∃ us : Nat → Value, v = .slice (some ⟨b, o, none⟩) xsss.length cap ∧ b < w.heap.size ∧ 0 < xsss.length ∧ ∀ j, j < xsss.length → w.cell? ⟨b, o + j, none⟩ = some (us j) ∧ RowS w (us j) (xsss.getD j [])
theorem RowT.old {w w' : World} {v : Value} {xsss : List (List (List Int))} (h : RowT w v xsss) (g : Old w w') : RowT w' v xsss := by
  rcases h with h1 | ⟨b, o, cap, us, e, hb, h0, hc⟩
  · exact Or.inl h1
  · exact Or.inr ⟨b, o, cap, us, e, Nat.lt_of_lt_of_le hb g.size, h0, fun j hj => ⟨(g.cell (p := ⟨b, o + j, none⟩) hb).trans (hc j hj).1, (hc j hj).2.old g⟩⟩
theorem RowT.slice {w : World} {v : Value} {xsss : List (List (List Int))} (h : RowT w v xsss) : ∃ a cap, v = .slice a xsss.length cap := by
  rcases h with ⟨a, cap, e, e2⟩ | ⟨b, o, cap, us, e, _⟩
  · exact ⟨a, cap, by rw [e, e2]; rfl⟩
  · exact ⟨_, cap, e⟩
def offT : List (List (List Int)) → Nat → Nat
  | [], _ => 0
  | _ :: _, 0 => 0
  | r :: rs, j + 1 => offL r r.length + offT rs j
theorem offT_zero (xsss : List (List (List Int))) : offT xsss 0 = 0 := by cases xsss <;> rfl
theorem offT_succ : ∀ (xsss : List (List (List Int))) (j : Nat), j < xsss.length → offT xsss (j + 1) = offT xsss j + offL (xsss.getD j []) (xsss.getD j []).length
  | [], j, h => by simp at h
  | r :: rs, 0, h => by
    show offL r r.length + offT rs 0 = 0 + _
    rw [offT_zero]
    simp
  | r :: rs, j + 1, h => by
    have := offT_succ rs j (by simpa using h)
    show offL r r.length + offT rs (j + 1) = offL r r.length + offT rs j + _
    rw [this]
    simp [List.getD]
    omega
theorem offT_le : ∀ (xsss : List (List (List Int))) (j : Nat), offT xsss j ≤ offT xsss xsss.length
  | [], j => by simp [offT]
  | r :: rs, 0 => by simp [offT]
  | r :: rs, j + 1 => by
    have := offT_le rs j
    show offL r r.length + offT rs j ≤ offL r r.length + offT rs rs.length
    omega
def leftT : Int → List (List (List Int)) → Int
  | left, [] => left
  | left, r :: rs => if leftSS left r < 0 then -1 else leftT (leftSS left r) rs
def leftTT (left : Int) (xsss : List (List (List Int))) : Int := if left < (xsss.length : Int) then -1 else leftT (left - xsss.length) xsss
theorem leftL_sum : ∀ (xss : List (List Int)) (left : Int), 0 ≤ left → ¬ leftL left xss < 0 → leftL left xss + (offL xss xss.length : Int) = left
  | [], left, h0, h => by simp [leftL, offL]
  | r :: rs, left, h0, h => by
    unfold leftL at h ⊢
    by_cases hr : leftN left r.length < 0
    · rw [if_pos hr] at h
      omega
    · rw [if_neg hr] at h ⊢
      obtain ⟨q1, q2, q3⟩ := leftN_ok hr h0
      have := leftL_sum rs _ q3 h
      show leftL (leftN left r.length) rs + ((r.length + offL rs rs.length : Nat) : Int) = left
      omega
theorem leftSS_sum {xss : List (List Int)} {left : Int} (h0 : 0 ≤ left) (h : ¬ leftSS left xss < 0) : leftSS left xss + (offL xss xss.length : Int) ≤ left := by
  unfold leftSS at h ⊢
  by_cases hr : left < (xss.length : Int)
  · rw [if_pos hr] at h
    omega
  · rw [if_neg hr] at h ⊢
    have := leftL_sum xss _ (by omega) h
    omega
theorem leftT_ok : ∀ (xsss : List (List (List Int))) (left : Int), 0 ≤ left → ¬ leftT left xsss < 0 → 0 ≤ leftT left xsss ∧ leftT left xsss ≤ left ∧ (offT xsss xsss.length : Int) ≤ left ∧ ∀ r ∈ xsss, (r.length : Int) ≤ left ∧ ∀ q ∈ r, (q.length : Int) ≤ left
  | [], left, h0, h => ⟨h0, Int.le_refl _, by simpa [offT] using h0, by simp⟩
  | r :: rs, left, h0, h => by
    unfold leftT at h ⊢
    by_cases hr : leftSS left r < 0
    · rw [if_pos hr] at h
      omega
    · rw [if_neg hr] at h ⊢
      obtain ⟨q1, q2, q3, q4⟩ := leftSS_ok h0 hr
      have q5 := leftSS_sum h0 hr
      obtain ⟨p1, p2, p3, p4⟩ := leftT_ok rs _ q1 h
      refine ⟨p1, by omega, ?_, fun x hx => ?_⟩
      · show ((offL r r.length + offT rs rs.length : Nat) : Int) ≤ left
        omega
      · rcases List.mem_cons.1 hx with rfl | hx
        · exact ⟨q3, q4⟩
        · have := p4 x hx
          exact ⟨by omega, fun q hq => by have := this.2 q hq; omega⟩
theorem leftTT_ok {xsss : List (List (List Int))} {left : Int} (h0 : 0 ≤ left) (h : ¬ leftTT left xsss < 0) : 0 ≤ leftTT left xsss ∧ leftTT left xsss ≤ left ∧ (xsss.length : Int) ≤ left ∧ (offT xsss xsss.length : Int) ≤ left ∧ ∀ r ∈ xsss, (r.length : Int) ≤ left ∧ ∀ q ∈ r, (q.length : Int) ≤ left := by
  unfold leftTT at h ⊢
  by_cases hr : left < (xsss.length : Int)
  · rw [if_pos hr] at h
    omega
  · rw [if_neg hr] at h ⊢
    obtain ⟨p1, p2, p3, p4⟩ := leftT_ok xsss _ (by omega) h
    exact ⟨p1, by omega, by omega, by omega, fun r hr => by
      have := p4 r hr
      exact ⟨by omega, fun q hq => by have := this.2 q hq; omega⟩⟩
theorem leftSS_neg {left : Int} {xss : List (List Int)} (h0 : 0 ≤ left) (h : leftSS left xss < 0) : leftSS left xss = -1 := by
  unfold leftSS at h ⊢
  split
  · rfl
  · rename_i h2
    rw [if_neg h2] at h
    have key : ∀ (l : List (List Int)) (z : Int), 0 ≤ z → leftL z l < 0 → leftL z l = -1 := fun l => by
      induction l with
      | nil => intro z hz h; unfold leftL at h; omega
      | cons r rs ih =>
        intro z hz h
        unfold leftL at h ⊢
        by_cases hq : leftN z r.length < 0
        · rw [if_pos hq]
        · rw [if_neg hq] at h ⊢
          exact ih _ (by omega) h
    exact key _ _ (by omega) h
theorem leftTT_neg {left : Int} {xsss : List (List (List Int))} (h0 : 0 ≤ left) (h : leftTT left xsss < 0) : leftTT left xsss = -1 := by
  unfold leftTT at h ⊢
  split
  · rfl
  · rename_i h2
    rw [if_neg h2] at h
    have key : ∀ (l : List (List (List Int))) (z : Int), 0 ≤ z → leftT z l < 0 → leftT z l = -1 := fun l => by
      induction l with
      | nil => intro z hz h; unfold leftT at h; omega
      | cons r rs ih =>
        intro z hz h
        unfold leftT at h ⊢
        by_cases hq : leftSS z r < 0
        · rw [if_pos hq]
        · rw [if_neg hq] at h ⊢
          exact ih _ (by omega) h
    exact key _ _ (by omega) h
theorem drop_consT (xsss : List (List (List Int))) (k : Nat) (h : k < xsss.length) : xsss.drop k = xsss.getD k [] :: xsss.drop (k + 1) := by
  rw [List.drop_eq_getElem_cons h]
  simp [List.getD, h]
set_option maxRecDepth 100000 in
set_option maxHeartbeats 2000000 in
theorem szIntSSS_any (xsss : List (List (List Int))) (v : Value) (left : Int) (w : World) (hv : RowT w v xsss) (hl : xsss.length ≤ 9223372036854775807) (hr : ∀ r ∈ xsss, r.length ≤ 9223372036854775807 ∧ ∀ q ∈ r, q.length ≤ 9223372036854775807) (h0 : 0 ≤ left) (h1 : left ≤ 1048576) :
    Calls Tryz.prog 58 #[v, .int .i64 left] w fun e w' => e = .returned (.int .i64 (leftTT left xsss)) ∧ Old w w' := by
  obtain ⟨a0, cap0, ev⟩ := hv.slice
  subst ev
  by_cases hb : left < (xsss.length : Int)
  · have d : decide (left - (xsss.length : Int) < 0) = true := by simp; omega
    have HB : Hid (leftTT left xsss = -1) := by show _ = _; unfold leftTT; rw [if_pos hb]
    clear hv hr hb
    go_enter Tryz.func58, Tryz.ntmps58
    go_wp2_with fail
    go_ret
    exact ⟨ret_ii HB.out.symm, Old.refl _⟩
  · have d : decide (left - (xsss.length : Int) < 0) = false := by simp; omega
    have HB : Hid (leftT (left - xsss.length) (xsss.drop 0) = leftTT left xsss) := by show _ = _; unfold leftTT; rw [if_neg hb]; rfl
    have hl2 : 0 ≤ left - (xsss.length : Int) ∧ left - (xsss.length : Int) ≤ 1048576 := by omega
    generalize leftTT left xsss = R at *
    have HR : Hid (∀ r ∈ xsss, r.length ≤ 9223372036854775807 ∧ ∀ q ∈ r, q.length ≤ 9223372036854775807) := hr
    have HV : Hid (RowT w (.slice a0 xsss.length cap0) xsss) := hv
    clear hv hr
    go_enter Tryz.func58, Tryz.ntmps58
    go_wp2_with fail
    go_loopw [5, 1] (fun i l W => ∃ (k : Nat) (z : Int), k ≤ xsss.length ∧ i = .int .i64 k ∧ l = .int .i64 z ∧ 0 ≤ z ∧ z ≤ 1048576 ∧ Hid (leftT z (xsss.drop k) = R) ∧ Hid (Old w W)) (fun i _ _ => xsss.length - (intOf i).toNat)
    case atStart => exact ⟨0, left - xsss.length, by omega, rfl, rfl, by omega, by omega, HB, Old.refl _⟩
    case round =>
      obtain ⟨k, z, hk, rfl, rfl, z0, z1, H1, HG⟩ := hrel
      clear HB d
      by_cases hlt : k < xsss.length
      · have d1 : decide ((k : Int) < (xsss.length : Int)) = true := by simp; omega
        rcases HV.out with ⟨a, cap, e, e2⟩ | ⟨b, o, cap, us, e, hb2, h3, hc⟩
        · subst e2
          simp at hlt
        simp only [Value.slice.injEq, true_and] at e
        obtain ⟨rfl, rfl⟩ := e
        obtain ⟨c1, r1⟩ := hc k hlt
        obtain ⟨a1, cap1, e1⟩ := r1.slice
        rw [e1] at c1 r1
        have q1 := (HG.out.cell (p := ⟨b, o + k, none⟩) hb2).trans c1
        have R1 : Hid (RowS wr (.slice a1 (xsss.getD k []).length cap1) (xsss.getD k [])) := r1.old HG.out
        have hm : xsss.getD k [] ∈ xsss := by simp [List.getD, hlt]
        have hrl := HR.out _ hm
        have H2 : Hid ((if leftSS z (xsss.getD k []) < 0 then -1 else leftT (leftSS z (xsss.getD k [])) (xsss.drop (k + 1))) = R) := by
          have := H1.out
          rw [drop_consT xsss k hlt] at this
          unfold leftT at this
          exact this
        generalize xsss.getD k [] = xss at *
        have cz := fun W h => szIntSS_any xss (.slice a1 xss.length cap1) z W h hrl.1 hrl.2 z0 z1
        clear hc c1 r1 e1 H1 hm
        by_cases hz : leftSS z xss < 0
        · have H3 : Hid (-1 = R) := by have := H2.out; rw [if_pos hz] at this; exact this
          rw [leftSS_neg z0 hz] at cz
          clear H2 hz
          go_wp2_with fail
          refine (cz _ R1.out).mono ?_
          rintro e w1 ⟨rfl, g1⟩
          have HG2 : Hid (Old w w1) := Old.trans HG.out g1
          clear g1
          go_wp2_with fail
          go_ret
          exact ⟨ret_ii H3.out, HG2.out⟩
        · have H3 : Hid (leftT (leftSS z xss) (xsss.drop (k + 1)) = R) := by have := H2.out; rw [if_neg hz] at this; exact this
          obtain ⟨q3, q4, _, _⟩ := leftSS_ok z0 hz
          have d2 : decide (leftSS z xss < 0) = false := decide_eq_false hz
          clear H2 hz
          generalize leftSS z xss = z2 at *
          go_wp2_with fail
          refine (cz _ R1.out).mono ?_
          rintro e w1 ⟨rfl, g1⟩
          have HG2 : Hid (Old w w1) := Old.trans HG.out g1
          clear g1
          go_wp2_with fail
          exact ⟨⟨k + 1, z2, by omega, by go_num, rfl, by omega, by omega, H3, HG2⟩, by simp [intOf]; omega⟩
      · have d1 : decide ((k : Int) < (xsss.length : Int)) = false := by simp; omega
        have H2 : Hid (z = R) := by
          have := H1.out
          rw [List.drop_eq_nil_of_le (by omega)] at this
          unfold leftT at this
          exact this
        clear H1
        go_wp2_with fail
        go_ret
        exact ⟨ret_ii H2.out, HG.out⟩
abbrev TSS (xss : List (List Int)) : Thing := TS 22 1 xss.length (fun k => TI (xss.getD k []))
theorem good_TSS (xss : List (List Int)) : GoodT (TSS xss) := good_TS _ _ _ (fun _ => good_TI _)
abbrev TTT (xsss : List (List (List Int))) : Thing := TS 93 1 xsss.length (fun j => TSS (xsss.getD j []))
theorem good_TTT (xsss : List (List (List Int))) : GoodT (TTT xsss) := good_TS _ _ _ (fun _ => good_TSS _)
theorem one_get {vs : List Value} {j : Nat} (hj : j < vs.length) : cellsJ 1 vs j = [vs[j]] := by
  have h2 := cellsJ_len (n := 1) (m := vs.length) (vs := vs) (by omega) j hj
  have h3 := cellsJ_get 1 vs j 0 (by omega)
  rw [Nat.mul_one, Nat.add_zero, List.getElem?_eq_getElem hj] at h3
  match hcs : cellsJ 1 vs j, h2 with
  | [x], _ =>
    rw [hcs] at h3
    simp at h3
    rw [h3]
theorem OwS.tss {xss : List (List Int)} {W : World} {lo hi : Nat} {v : Value} (h : OwS xss W lo hi v) : ∃ B, TSS xss W B [v] ∧ ∀ b, B b → lo ≤ b ∧ b < hi := by
  obtain ⟨hh, h | ⟨p, cap, vs, rfl, hcap, hlo, hhi, ho, hvl, hj, hd⟩⟩ := h
  · obtain ⟨rfl, rfl⟩ := h
    exact ⟨fun _ => False, .inl ⟨rfl, rfl, fun b hb => hb⟩, fun b hb => hb.elim⟩
  · refine ⟨fun b => b = p ∨ ∃ j, j < xss.length ∧ (vs.getD j (.slice none 0 0)).ownBlock = some b, .inr ⟨p, cap, vs, fun j b => (vs.getD j (.slice none 0 0)).ownBlock = some b, rfl, ⟨⟨ho.1, ?_⟩, fun j hjl => ?_, fun j hjl => ?_, fun i j hi' hj' hij b h1 h2 => ?_⟩, fun b => Iff.rfl⟩, fun b hb => ?_⟩
    · rcases ho.2 with hn | ⟨p', cap', cur, e', hb', rest⟩
      · exact .inl hn
      · exact .inr ⟨p', cap', cur, e', Nat.zero_le _, rest⟩
    · obtain ⟨a, c, e, hc, o, hb⟩ := hj j hjl
      have e2 : vs.getD j (.slice none 0 0) = .slice a (xss.getD j []).length c := by simp [List.getD, e]
      have e3 : vs[j]'(by omega) = .slice a (xss.getD j []).length c := by
        have := List.getElem?_eq_getElem (l := vs) (i := j) (by omega)
        rw [e] at this
        exact (Option.some.inj this).symm
      rw [one_get (by omega), e3]
      refine ⟨a, c, rfl, Own.low o.1 (Nat.zero_le _), hc, fun b => ?_⟩
      show (vs.getD j (.slice none 0 0)).ownBlock = some b ↔ _
      rw [e2]
    · obtain ⟨a, c, e, hc, o, hb⟩ := hj j hjl
      have e2 : vs.getD j (.slice none 0 0) = .slice a (xss.getD j []).length c := by simp [List.getD, e]
      show ¬ (vs.getD j (.slice none 0 0)).ownBlock = some p
      rw [e2]
      exact fun hx => hb p hx rfl
    · have g1 : vs[i]? = some (vs.getD i (.slice none 0 0)) := by simp [List.getD, show i < vs.length by omega]
      have g2 : vs[j]? = some (vs.getD j (.slice none 0 0)) := by simp [List.getD, show j < vs.length by omega]
      rcases Nat.lt_or_ge i j with h3 | h3
      · exact hd i j _ _ b h3 g1 g2 h1 h2
      · exact hd j i _ _ b (by omega) g2 g1 h2 h1
    · rcases hb with rfl | ⟨j, hjl, hb⟩
      · exact ⟨hlo, hhi⟩
      · obtain ⟨a, c, e, hc, o, hb2⟩ := hj j hjl
        have e2 : vs.getD j (.slice none 0 0) = .slice a (xss.getD j []).length c := by simp [List.getD, e]
        rw [e2] at hb
        exact ⟨(o.1.lt b hb).1, o.2.2 b hb⟩
theorem TSS.owS {xss : List (List Int)} {W : World} {B : Nat → Prop} {v : Value} {lo hi : Nat} (h : TSS xss W B [v]) (hb : ∀ b, B b → lo ≤ b ∧ b < hi) (hh : hi ≤ W.heap.size) : OwS xss W lo hi v := by
  rcases h with ⟨h0, e, _⟩ | ⟨p, cap, vs, Bs, e, hc, hbb⟩
  · simp at e
    exact ⟨hh, .inl ⟨e, List.length_eq_zero_iff.1 h0⟩⟩
  simp at e
  subst e
  have hp := hb p ((hbb p).2 (.inl rfl))
  have hvl : vs.length = xss.length := by have := hc.row.1; omega
  have hcap : xss.length ≤ cap := by
    rcases hc.row.2 with ⟨hn, _⟩ | ⟨p', cap', cur, e', _, _, h3, _⟩
    · cases hn
    · simp only [Value.slice.injEq] at e'
      omega
  have hcell : ∀ j, j < xss.length → ∃ x, vs[j]? = some x ∧ TI (xss.getD j []) W (Bs j) [x] := fun j hj => by
    have h1 := hc.el j hj
    rw [one_get (by omega)] at h1
    exact ⟨_, List.getElem?_eq_getElem (by omega), h1⟩
  refine ⟨hh, .inr ⟨p, cap, vs, rfl, hcap, hp.1, hp.2, ⟨hc.row.1, ?_⟩, hvl, fun j hj => ?_, fun i j x y b hij hx hy hbx hby => ?_⟩⟩
  · rcases hc.row.2 with ⟨hn, _⟩ | ⟨p', cap', cur, e', _, rest⟩
    · cases hn
    · simp only [Value.slice.injEq, Option.some.injEq, Addr.mk.injEq, true_and, and_true] at e'
      obtain ⟨rfl, rfl⟩ := e'
      exact .inr ⟨p, cap, cur, rfl, hp.1, rest⟩
  · obtain ⟨x, e, hE⟩ := hcell j hj
    obtain ⟨a, c, rfl⟩ := hE.slice
    have hbl := hE.blocks
    have ho := hE.own (lo := lo) (fun b hb' => (hb b ((hbb b).2 (.inr ⟨j, hj, hb'⟩))).1)
    refine ⟨a, c, e, ?_, ⟨ho, hh, fun b hb' => (hb b ((hbb b).2 (.inr ⟨j, hj, (hbl b).2 hb'⟩))).2⟩, fun b hb' e2 => ?_⟩
    · obtain ⟨a2, c2, e2, _, f2, _⟩ := hE
      simp at e2
      rw [e2.2]
      exact f2
    · subst e2
      exact hc.np j hj ((hbl b).2 hb')
  · have hi' : i < xss.length := by have := (List.getElem?_eq_some_iff.1 hx).1; omega
    have hj' : j < xss.length := by have := (List.getElem?_eq_some_iff.1 hy).1; omega
    obtain ⟨x2, e, hE⟩ := hcell i hi'
    obtain ⟨y2, e2, hE2⟩ := hcell j hj'
    rw [e] at hx
    rw [e2] at hy
    obtain rfl := Option.some.inj hx
    obtain rfl := Option.some.inj hy
    exact hc.dis i j hi' hj' (by omega) b ((hE.blocks b).2 hbx) ((hE2.blocks b).2 hby)
theorem TSS.whole {xss : List (List Int)} {W : World} {B : Nat → Prop} {v : Value} (h : TSS xss W B [v]) : OwS xss W 0 W.heap.size v :=
  TSS.owS h (fun b hb => ⟨Nat.zero_le _, (good_TSS xss).lt h b hb⟩) (Nat.le_refl _)
theorem TSS.slice {xss : List (List Int)} {W : World} {B : Nat → Prop} {v : Value} (h : TSS xss W B [v]) : ∃ a c, v = .slice a xss.length c := TS.slice h
theorem TTT.rowT {xsss : List (List (List Int))} {W : World} {B : Nat → Prop} {v : Value} (h : TTT xsss W B [v]) : RowT W v xsss := by
  rcases h with ⟨h0, e, _⟩ | ⟨p, cap, vs, Bs, e, hc, hbb⟩
  · simp at e
    subst e
    exact .inl ⟨none, 0, rfl, List.length_eq_zero_iff.1 h0⟩
  simp at e
  subst e
  have hvl : vs.length = xsss.length := by have := hc.row.1; omega
  rcases Nat.eq_zero_or_pos xsss.length with h0 | h0
  · obtain rfl := List.length_eq_zero_iff.1 h0
    exact .inl ⟨_, _, rfl, rfl⟩
  refine .inr ⟨p, 0, cap, fun j => vs.getD j (.slice none 0 0), rfl, ownsRow_lt hc.row, h0, fun j hj => ?_⟩
  have h1 := hc.el j hj
  rw [one_get (by omega)] at h1
  have e2 : vs.getD j (.slice none 0 0) = vs[j]'(by omega) := by simp [List.getD, show j < vs.length by omega]
  show W.cell? ⟨p, 0 + j, none⟩ = some (vs.getD j (.slice none 0 0)) ∧ RowS W (vs.getD j (.slice none 0 0)) _
  rw [e2]
  refine ⟨?_, (TSS.whole h1).rowS⟩
  rw [Nat.zero_add, World.ownsRow.cellAt hc.row j (by omega)]
  exact List.getElem?_eq_getElem _
theorem Tryz.infoIntSS : (Tryz.prog.info? 93).map (fun i => (i.zero, i.size, i.bytes)) = some (some (.slice none 0 0), 1, 24) := by kernel_rfl
theorem cells_oneT {m k : Nat} {vs : List Value} (h : vs.length = m * 1) (hk : k < m) (a : Value) : cellsJ 1 (vs.set (k * 1 + 0) a) k = [a] := by
  have hl := cellsJ_len (n := 1) h k hk
  rw [cellsJ_set 1 _ k 0 k a (by omega), if_pos rfl]
  match cellsJ 1 vs k, hl with
  | [_], _ => rfl
theorem TSc.storeT {T : TypeId} {m k : Nat} {Es : Nat → Thing} {W : World} {p cap : Nat} {vs : List Value} {Bs : Nat → Nat → Prop} {B : Nat → Prop} (g : ∀ j, GoodT (Es j)) (h : TSc T 1 m k Es W p cap vs Bs) (hk : k < m) (a : Value)
    (he : ∀ W' : World, (∀ b, b ≠ p → W'.heap[b]? = W.heap[b]?) → Es k W' B [a]) (hp : ¬ B p) (hd : ∀ j, j < k → ∀ b, Bs j b → B b → False) :
    ∃ vs', TSc T 1 m (k + 1) Es (W.setCell ⟨p, k, none⟩ a) p cap vs' (fun q => if q = k then B else Bs q) := by
  have h1 := h.fill g 0 (by omega) a
  rw [Nat.mul_one, Nat.add_zero] at h1
  refine ⟨_, h1.more (B := B) ?_ hp hd⟩
  have := cells_oneT h.row.1 hk a
  rw [Nat.mul_one, Nat.add_zero] at this
  rw [this]
  exact he _ (fun b hb => heap_setCell_other _ _ _ _ hb)
set_option maxRecDepth 100000 in
set_option maxHeartbeats 4000000 in
theorem toIntSSS_any (xsss : List (List (List Int))) (v : Value) (w : World) (hv : RowT w v xsss) (hl : xsss.length ≤ 1048576) (hr : ∀ r ∈ xsss, r.length ≤ 1048576 ∧ ∀ q ∈ r, q.length ≤ 1048576) :
    Calls Tryz.prog 64 #[v] w fun e w' => ∃ v', e = .returned v' ∧ Old w w' ∧ Ows (TTT xsss) w' w.heap.size w'.heap.size [v'] := by
  obtain ⟨i0, hi, hz0, hz1, hz2⟩ := info_parts Tryz.infoIntSS
  obtain ⟨a0, cap0, ev⟩ := hv.slice
  subst ev
  have HR : Hid (∀ r ∈ xsss, r.length ≤ 1048576 ∧ ∀ q ∈ r, q.length ≤ 1048576) := hr
  have HV : Hid (RowT w (.slice a0 xsss.length cap0) xsss) := hv
  have HGD : Hid (∀ j, GoodT (TSS (xsss.getD j []))) := fun j => good_TSS _
  clear hv hr
  go_enter Tryz.func64, Tryz.ntmps64
  go_wp2_with (at_make; refine wpList_make_full _ rfl _ _ 32 rfl 0 93 i0 (.slice none 0 0) 1 Tryz.underlying32 hi hz0 hz1 .i64 .i64 _ _ xsss.length rfl rfl rfl rfl (by rw [hz2]; omega) (by unfold maxLen; omega) (Nat.zero_le _) ?_; intro w1 hown hgrow)
  have HO : Hid (TSc 93 1 xsss.length 0 (fun j => TSS (xsss.getD j [])) w1 w.heap.size xsss.length _ (fun _ _ => False)) := TSc.start hown
  have HG : Hid (Old w w1) := Below.grown (Below.refl _ _) hgrow (Nat.le_refl _) (fun _ h => by cases h)
  clear hown hgrow
  go_loopw [4] (fun i W => ∃ (k : Nat) (vs : List Value) (Bs : Nat → Nat → Prop), k ≤ xsss.length ∧ i = .int .i64 k ∧ Hid (TSc 93 1 xsss.length k (fun j => TSS (xsss.getD j [])) W w.heap.size xsss.length vs Bs) ∧ Hid (∀ j b, j < k → Bs j b → w.heap.size < b) ∧ Hid (Old w W)) (fun i _ => xsss.length - (intOf i).toNat)
  case atStart => exact ⟨0, _, _, by omega, rfl, HO, (fun j b hj => by omega), HG⟩
  case round =>
    obtain ⟨k, vs, Bs, hk, rfl, H1, HB, HG1⟩ := hrel
    clear HO HG
    by_cases hlt : k < xsss.length
    · have d1 : decide ((k : Int) < (xsss.length : Int)) = true := by simp; omega
      rcases HV.out with ⟨a, cap, e, e2⟩ | ⟨b, o, cap, us, e, hb2, h3, hc⟩
      · subst e2
        simp at hlt
      simp only [Value.slice.injEq, true_and] at e
      obtain ⟨rfl, rfl⟩ := e
      obtain ⟨c0, r0⟩ := hc k hlt
      have hm : xsss.getD k [] ∈ xsss := by simp [List.getD, hlt]
      have hrl := HR.out _ hm
      obtain ⟨a1, cap1, e1⟩ := r0.slice
      rw [e1] at c0 r0
      have q1 : wr.cell? ⟨b, o + k, none⟩ = some (.slice a1 (xsss.getD k []).length cap1) := (HG1.out.cell (p := ⟨b, o + k, none⟩) hb2).trans c0
      have HR1 : Hid (RowS wr (.slice a1 (xsss.getD k []).length cap1) (xsss.getD k [])) := r0.old HG1.out
      obtain ⟨xss, hxss⟩ : ∃ xss, xsss.getD k [] = xss := ⟨_, rfl⟩
      have HEL : Hid (TSS (xsss.getD k []) = TSS xss) := by show _ = _; rw [hxss]
      rw [hxss] at q1 HR1 hrl
      clear hc c0 r0 e1 hm hxss
      go_wp2_with fail
      refine (toIntSS_any xss _ _ HR1.out hrl.1 hrl.2).mono ?_
      rintro e w2 ⟨v', rfl, g2, o2, a2, c2, rfl⟩
      have hsr : w.heap.size < wr.heap.size := ownsRow_lt H1.out.row
      have H2 := H1.out.old HGD.out g2
      obtain ⟨y0, hy0⟩ : ∃ y, w2.cell? ⟨w.heap.size, k, none⟩ = some y := by
        have h5 := H2.cell k 0 hlt (by omega)
        rw [Nat.mul_one, Nat.add_zero] at h5
        have h6 := cellsJ_len H2.row.1 k hlt
        exact ⟨_, h5.trans (List.getElem?_eq_getElem (by omega))⟩
      have f0 : w2.frozen? ⟨w.heap.size, k, none⟩ = false := H2.frozen _
      obtain ⟨B, hTI, hBlo⟩ := o2.tss
      have hst := H2.storeT HGD.out hlt (.slice a2 xss.length c2) (B := B) (fun W' hW' => by
        rw [HEL.out]
        refine (good_TSS xss).far hTI (fun b hb => hW' b ?_)
        have := hBlo b hb
        omega) (fun hb => by have := hBlo _ hb; omega) (fun j hj b h1 h2 => by
          have h4 := H1.out.lt HGD.out j b hj h1
          have := hBlo b h2
          omega)
      obtain ⟨vs', H3⟩ := hst
      have HN : Hid (TSc 93 1 xsss.length (k + 1) (fun j => TSS (xsss.getD j [])) (w2.setCell ⟨w.heap.size, k, none⟩ (.slice a2 xss.length c2)) w.heap.size xsss.length vs' (fun q => if q = k then B else Bs q)) := H3
      have HNB : Hid (∀ j b, j < k + 1 → (fun q => if q = k then B else Bs q) j b → w.heap.size < b) := fun j b hj hb => by
        by_cases e : j = k
        · simp only [e, if_true] at hb
          have := hBlo b hb
          omega
        · simp only [e, if_false] at hb
          exact HB.out j b (by omega) hb
      have HG2 : Hid (Old w (w2.setCell ⟨w.heap.size, k, none⟩ (.slice a2 xss.length c2))) := (Old.trans HG1.out g2).own (p := ⟨w.heap.size, k, none⟩) (Nat.le_refl _) _
      clear H1 H2 H3 g2 o2 hTI hBlo HB HEL
      go_wp2_with fail
      exact ⟨⟨k + 1, vs', _, by omega, by go_num, HN, HNB, HG2⟩, by simp [intOf]; omega⟩
    · have d1 : decide ((k : Int) < (xsss.length : Int)) = false := by simp; omega
      obtain rfl : k = xsss.length := by omega
      go_wp2_with fail
      go_ret
      exact ⟨_, rfl, HG1.out, H1.out.done HGD.out (Nat.le_refl _) (fun j b hj hb => Nat.le_of_lt (HB.out j b hj hb))⟩
set_option maxRecDepth 100000 in
set_option maxHeartbeats 2000000 in
theorem eqIntSSS_yes (xsss : List (List (List Int))) (v u : Value) (w : World) (hv : RowT w v xsss) (hu : RowT w u xsss) (hl : xsss.length ≤ 1048576) (hr : ∀ r ∈ xsss, r.length ≤ 1048576 ∧ ∀ q ∈ r, q.length ≤ 1048576) :
    Calls Tryz.prog 68 #[v, u] w fun e w' => e = .returned (.bool true) ∧ Old w w' := by
  obtain ⟨a0, cap0, ev⟩ := hv.slice
  obtain ⟨a1, cap1, eu⟩ := hu.slice
  subst ev eu
  have HR : Hid (∀ r ∈ xsss, r.length ≤ 1048576 ∧ ∀ q ∈ r, q.length ≤ 1048576) := hr
  have HV : Hid (RowT w (.slice a0 xsss.length cap0) xsss) := hv
  have HU : Hid (RowT w (.slice a1 xsss.length cap1) xsss) := hu
  have dn : ((xsss.length : Int) != (xsss.length : Int)) = false := by simp
  clear hv hu hr
  go_enter Tryz.func68, Tryz.ntmps68
  go_wp2_with fail
  go_loopw [5] (fun i W => ∃ k : Nat, k ≤ xsss.length ∧ i = .int .i64 k ∧ Hid (Old w W)) (fun i _ => xsss.length - (intOf i).toNat)
  case atStart => exact ⟨0, by omega, rfl, Old.refl _⟩
  case round =>
    obtain ⟨k, hk, rfl, HG⟩ := hrel
    by_cases hlt : k < xsss.length
    · have d1 : decide ((k : Int) < (xsss.length : Int)) = true := by simp; omega
      rcases HV.out with ⟨a, cap, e, e2⟩ | ⟨b, o, cap, us, e, hb2, h3, hc⟩
      · subst e2
        simp at hlt
      rcases HU.out with ⟨a', cap', e', e2'⟩ | ⟨b', o', cap', us', e', hb2', h3', hc'⟩
      · subst e2'
        simp at hlt
      simp only [Value.slice.injEq, true_and] at e e'
      obtain ⟨rfl, rfl⟩ := e
      obtain ⟨rfl, rfl⟩ := e'
      obtain ⟨c0, r0⟩ := hc k hlt
      obtain ⟨c0', r0'⟩ := hc' k hlt
      have hm : xsss.getD k [] ∈ xsss := by simp [List.getD, hlt]
      have hrl := HR.out _ hm
      obtain ⟨x1, y1, e1⟩ := r0.slice
      obtain ⟨x2, y2, e3⟩ := r0'.slice
      rw [e1] at c0 r0
      rw [e3] at c0' r0'
      have q1 := (HG.out.cell (p := ⟨b, o + k, none⟩) hb2).trans c0
      have q2 := (HG.out.cell (p := ⟨b', o' + k, none⟩) hb2').trans c0'
      have R1 : Hid (RowS wr (.slice x1 (xsss.getD k []).length y1) (xsss.getD k [])) := r0.old HG.out
      have R2 : Hid (RowS wr (.slice x2 (xsss.getD k []).length y2) (xsss.getD k [])) := r0'.old HG.out
      have hbr : b < wr.heap.size := Nat.lt_of_lt_of_le hb2 HG.out.size
      have hbr' : b' < wr.heap.size := Nat.lt_of_lt_of_le hb2' HG.out.size
      generalize xsss.getD k [] = xs at *
      have HAS : Hid (∀ W' : World, Old wr W' → (W'.cell? ⟨b, o + k, none⟩ = some (.slice x1 xs.length y1) ∧ W'.cell? ⟨b', o' + k, none⟩ = some (.slice x2 xs.length y2))) := fun W' g => ⟨(g.cell (p := ⟨b, o + k, none⟩) hbr).trans q1, (g.cell (p := ⟨b', o' + k, none⟩) hbr').trans q2⟩
      clear hc hc' c0 c0' r0 r0' e1 e3 hm
      go_wp2_with fail
      go_region_held3 (fun W' => W'.cell? ⟨b, o + k, none⟩ = some (.slice x1 xs.length y1) ∧ W'.cell? ⟨b', o' + k, none⟩ = some (.slice x2 xs.length y2)) (first | with_reducible exact HAS.out _ GE.out | with_reducible exact HAS.out _ (Below.drew (Old.refl wr)) | with_reducible exact HAS.out _ (Old.refl wr)) (first
        | (go_at_call 129; refine (eqIntSS_yes xs _ _ _ (R1.out.old (Below.drew (Old.refl wr))) (R2.out.old (Below.drew (Old.refl wr))) hrl.1 hrl.2).mono ?_; rintro e w2 ⟨rfl, ge⟩; have GE : Hid (Old wr w2) := Old.trans (Below.drew (Old.refl wr)) ge; clear ge)
        | fail)
      have HG2 : Hid (Old w w2) := Old.trans HG.out GE.out
      go_wp2_with fail
      exact ⟨⟨k + 1, by omega, by go_num, HG2⟩, by simp [intOf]; omega⟩
    · have d1 : decide ((k : Int) < (xsss.length : Int)) = false := by simp; omega
      go_wp2_with fail
      go_ret
      exact ⟨rfl, HG.out⟩
end Go.Proofs.YtakleianimcmdaaGreatDoor
/- Proved: ciphers as a law carries them: sizes, copies, comparisons. -/
namespace Go.Proofs.YtakleianimcmdaaGreatDoor
open Go.ChangeShapes Go.WideShapes Go.ChangeAt Go.RowKit
set_option linter.unusedVariables false
set_option linter.unusedSimpArgs false
def XC (xsss : List (List (List Int))) (W : World) (lo hi : Nat) (g : Array Value) : Prop := ∃ a c, g = #[.slice a xsss.length c] ∧ Ows (TTT xsss) W lo hi [.slice a xsss.length c]
theorem far_XC (xsss : List (List (List Int))) : Far (XC xsss) := fun W W' lo hi v h hf hs => by
  obtain ⟨a, c, e, o⟩ := h
  exact ⟨a, c, e, far_Ows (good_TTT xsss) W W' lo hi _ o hf hs⟩
theorem shape_XC {xsss : List (List (List Int))} (W : World) (lo hi : Nat) (g : Array Value) (h : XC xsss W lo hi g) : ∃ a c, g = #[.slice a xsss.length c] := by
  obtain ⟨a, c, e, o⟩ := h
  exact ⟨a, c, e⟩
theorem Ows.rowT {xsss : List (List (List Int))} {W : World} {lo hi : Nat} {v : Value} (h : Ows (TTT xsss) W lo hi [v]) : RowT W v xsss := by
  obtain ⟨_, B, hT, _⟩ := h
  exact TTT.rowT hT
theorem kc_sz (xsss : List (List (List Int))) (v : Value) (left : Int) (w : World) (hv : RowT w v xsss) (hl : xsss.length ≤ 9223372036854775807) (hr : ∀ r ∈ xsss, r.length ≤ 9223372036854775807 ∧ ∀ q ∈ r, q.length ≤ 9223372036854775807) (h0 : 0 ≤ left) (h1 : left ≤ 1048576) :
    Calls Tryz.prog 19 #[.agg #[v], .int .i64 left] w fun e w' => e = .returned (.int .i64 (leftTT left xsss)) ∧ Old w w' := by
  have c := fun W (h : RowT W v xsss) => szIntSSS_any xsss v left W h hl hr h0 h1
  have HV : Hid (RowT w v xsss) := hv
  obtain ⟨a0, cap0, ev⟩ := hv.slice
  subst ev
  clear hv hr
  by_cases hz : leftTT left xsss < 0
  · rw [leftTT_neg h0 hz] at c ⊢
    clear hz
    go_enter Tryz.func19, Tryz.ntmps19
    go_wp2_with fail
    refine (c _ (HV.out.old ((Old.refl w).alloc _))).mono ?_
    rintro e w1 ⟨rfl, g1⟩
    have HG : Hid (Old w w1) := Old.trans ((Old.refl w).alloc _) g1
    clear g1
    go_wp2_with fail
    go_ret
    exact ⟨rfl, HG.out⟩
  · have d : decide (leftTT left xsss < 0) = false := decide_eq_false hz
    generalize leftTT left xsss = z at *
    go_enter Tryz.func19, Tryz.ntmps19
    go_wp2_with fail
    refine (c _ (HV.out.old ((Old.refl w).alloc _))).mono ?_
    rintro e w1 ⟨rfl, g1⟩
    have HG : Hid (Old w w1) := Old.trans ((Old.refl w).alloc _) g1
    clear g1
    go_wp2_with fail
    go_ret
    exact ⟨rfl, HG.out⟩
theorem Ows.putT {xsss : List (List (List Int))} {W : World} {lo hi k j : Nat} {v x : Value} (h : Ows (TTT xsss) W lo hi [v]) (hk : k < lo ∨ hi ≤ k) : Ows (TTT xsss) (W.setCell ⟨k, j, none⟩ x) lo hi [v] :=
  far_Ows (good_TTT xsss) W _ lo hi _ h (fun b h1 h2 => heap_setCell_other _ _ _ _ (by show b ≠ k; omega)) (by simp)
set_option maxHeartbeats 1000000 in
theorem kc_to (xsss : List (List (List Int))) (v : Value) (w : World) (h : RowT w v xsss) (hl : xsss.length ≤ 1048576) (hr : ∀ r ∈ xsss, r.length ≤ 1048576 ∧ ∀ q ∈ r, q.length ≤ 1048576) :
    Calls Tryz.prog 21 #[.agg #[v]] w fun e w' => ∃ g, e = .returned (.agg g) ∧ Old w w' ∧ XC xsss w' w.heap.size w'.heap.size g := by
  have HR : Hid (RowT w v xsss) := h
  have HRR : Hid (∀ r ∈ xsss, r.length ≤ 1048576 ∧ ∀ q ∈ r, q.length ≤ 1048576) := hr
  obtain ⟨a0, cap0, ev⟩ := h.slice
  subst ev
  clear h hr
  go_enter Tryz.func21, Tryz.ntmps21
  go_wp2_with fail
  refine (toIntSSS_any xsss _ _ (HR.out.old (((Old.refl w).alloc _).alloc _ |>.alloc _)) hl HRR.out).mono ?_
  rintro e w1 ⟨v1, rfl, g1, o1⟩
  obtain ⟨a1, c1, rfl⟩ : ∃ a c, v1 = .slice a xsss.length c := o1.rowT.slice
  have q20 : w1.cell? ⟨w.heap.size + 1 + 1, 0, none⟩ = some (Value.slice none 0 0) := (g1.cell (p := ⟨w.heap.size + 1 + 1, 0, none⟩) (by simp; try omega)).trans (by simp [cell_at, cell_lt, fro_at, fro_lt])
  have q10 : w1.cell? ⟨w.heap.size + 1, 0, none⟩ = some (Value.slice none 0 0) := (g1.cell (p := ⟨w.heap.size + 1, 0, none⟩) (by simp; try omega)).trans (by simp [cell_at, cell_lt, fro_at, fro_lt])
  have f20 : w1.frozen? ⟨w.heap.size + 1 + 1, 0, none⟩ = false := (g1.frozen (p := ⟨w.heap.size + 1 + 1, 0, none⟩) (by simp; try omega)).trans (by simp [cell_at, cell_lt, fro_at, fro_lt])
  have f10 : w1.frozen? ⟨w.heap.size + 1, 0, none⟩ = false := (g1.frozen (p := ⟨w.heap.size + 1, 0, none⟩) (by simp; try omega)).trans (by simp [cell_at, cell_lt, fro_at, fro_lt])
  have HG : Hid (Old w w1) := Old.trans (((Old.refl w).alloc _).alloc _ |>.alloc _) g1
  have HO : Hid (Ows (TTT xsss) w1 (w.heap.size + 1 + 1 + 1) w1.heap.size [.slice a1 xsss.length c1]) := by
    have := o1
    simp at this
    exact this
  clear g1 o1 HR
  go_wp2_with fail
  refine bodyPost_ret (v := .agg #[.slice a1 xsss.length c1]) (by simp [results, Tryz.results21, go_sem, q10]) rfl ⟨_, rfl, ?_, a1, c1, rfl, ?_⟩
  · exact (HG.out.own (p := ⟨w.heap.size + 1 + 1, 0, none⟩) (by simp; omega) _).own (p := ⟨w.heap.size + 1, 0, none⟩) (by simp) _
  · have h2 := (HO.out.putT (k := w.heap.size + 1 + 1) (j := 0) (x := .slice a1 xsss.length c1) (by omega)).putT (k := w.heap.size + 1) (j := 0) (x := .slice a1 xsss.length c1) (by omega)
    exact h2.low (lo' := w.heap.size) (by omega) (by simp) (Nat.le_refl _)
set_option maxHeartbeats 1000000 in
theorem kc_eq (xsss : List (List (List Int))) (w : World) (lo hi : Nat) (g : Array Value) (lo' hi' : Nat) (g' : Array Value) (h : XC xsss w lo hi g) (h' : XC xsss w lo' hi' g') (hl : xsss.length ≤ 1048576) (hr : ∀ r ∈ xsss, r.length ≤ 1048576 ∧ ∀ q ∈ r, q.length ≤ 1048576) :
    Calls Tryz.prog 23 #[.agg g, .agg g'] w fun e w' => e = .returned (.bool true) ∧ Old w w' := by
  obtain ⟨a0, cap0, rfl, o⟩ := h
  obtain ⟨a1, cap1, rfl, o'⟩ := h'
  have HR : Hid (RowT w (.slice a0 xsss.length cap0) xsss) := o.rowT
  have HK : Hid (RowT w (.slice a1 xsss.length cap1) xsss) := o'.rowT
  have HRR : Hid (∀ r ∈ xsss, r.length ≤ 1048576 ∧ ∀ q ∈ r, q.length ≤ 1048576) := hr
  clear o o' hr
  go_enter Tryz.func23, Tryz.ntmps23
  go_wp2_with fail
  refine (eqIntSSS_yes xsss _ _ _ (HR.out.old (((Old.refl w).alloc _).alloc _)) (HK.out.old (((Old.refl w).alloc _).alloc _)) hl HRR.out).mono ?_
  rintro e w1 ⟨rfl, g1⟩
  have HG : Hid (Old w w1) := Old.trans (((Old.refl w).alloc _).alloc _) g1
  clear g1
  go_wp2_with fail
  go_ret
  exact ⟨rfl, HG.out⟩
end Go.Proofs.YtakleianimcmdaaGreatDoor
/- Proved: rows of rows that grow row by row. -/
namespace Go.Proofs.YtakleianimcmdaaGreatDoor
open Go.ChangeShapes Go.WideShapes Go.ChangeAt Go.RowKit
open M1
set_option linter.unusedVariables false
set_option linter.unusedSimpArgs false
theorem getD_app1 (yss : List (List Int)) (r : List Int) (j : Nat) (h : j < yss.length) : (yss ++ [r]).getD j [] = yss.getD j [] := by
  simp [List.getD, List.getElem?_append_left h]
theorem getD_app2 (yss : List (List Int)) (r : List Int) : (yss ++ [r]).getD yss.length [] = r := by
  simp [List.getD]
theorem OwS.app {yss : List (List Int)} {wr W : World} {lo : Nat} {x : Value} {r : List Int} {a : Option Addr} {c : Nat} (h : OwS yss wr lo wr.heap.size x) (hlo : lo ≤ wr.heap.size) (g : Old wr W) (o : Own W wr.heap.size (.slice a r.length c) r) (hc : r.length ≤ c) :
    ∃ vs, W.ownsRow lo 22 1 x yss.length vs ∧ (∀ v' w', w'.ownsRow lo 22 1 v' (yss.length + 1) (vs ++ [.slice a r.length c]) → W.grownBy w' x.ownBlock → (v'.ownBlock = x.ownBlock ∨ v'.ownBlock = some W.heap.size) → OwS (yss ++ [r]) w' lo w'.heap.size v') := by
  have key : ∃ vs : List Value, W.ownsRow lo 22 1 x yss.length vs ∧ vs.length = yss.length ∧ (∀ p, x.ownBlock = some p → p < wr.heap.size)
      ∧ (∀ j, j < yss.length → ∃ a c, vs[j]? = some (.slice a (yss.getD j []).length c) ∧ (yss.getD j []).length ≤ c ∧ Own wr lo (.slice a (yss.getD j []).length c) (yss.getD j []) ∧ (∀ b, (Value.slice a (yss.getD j []).length c).ownBlock = some b → x.ownBlock ≠ some b))
      ∧ (∀ (i j : Nat) (x y : Value) (b : Nat), i < j → vs[i]? = some x → vs[j]? = some y → x.ownBlock = some b → y.ownBlock = some b → False) := by
    obtain ⟨hh, ⟨e, e2⟩ | ⟨p, cap, vs, e, hcap, hl, hhi, ho, hvl, hj, hd⟩⟩ := h
    · subst e e2
      refine ⟨[], ⟨rfl, Or.inl ⟨rfl, rfl⟩⟩, rfl, (fun p hp => by cases hp), (fun j hj => by simp at hj), (fun i j x y b hij hx => by simp at hx)⟩
    · subst e
      refine ⟨vs, ?_, hvl, fun q hq => ?_, fun j hjl => ?_, hd⟩
      · refine ⟨ho.1, ?_⟩
        rcases ho.2 with ⟨hn, _⟩ | ⟨p', cap', cur, e', hb', hgg, rest⟩
        · cases hn
        · refine .inr ⟨p', cap', cur, e', hb', ?_, rest⟩
          rw [g.block p' (Array.getElem?_eq_some_iff.1 hgg).1]
          exact hgg
      · simp only [Value.ownBlock, Option.some.injEq] at hq
        omega
      · obtain ⟨a2, c2, e3, hc2, oj, hb2⟩ := hj j hjl
        refine ⟨a2, c2, e3, hc2, oj.1, fun b hb hx => hb2 b hb ?_⟩
        simp only [Value.ownBlock, Option.some.injEq] at hx
        exact hx.symm
  obtain ⟨vs, ho, hvl, hp, hj, hd⟩ := key
  refine ⟨vs, ho, fun v' w' ho' gr hv' => ?_⟩
  have hsz := g.size
  have hsz' := gr.size
  have hrow : ∀ j, j < yss.length → ∃ a c, vs[j]? = some (.slice a (yss.getD j []).length c) ∧ (yss.getD j []).length ≤ c ∧ Own w' lo (.slice a (yss.getD j []).length c) (yss.getD j []) ∧ (∀ b, (Value.slice a (yss.getD j []).length c).ownBlock = some b → b < wr.heap.size ∧ v'.ownBlock ≠ some b) := fun j hjl => by
    obtain ⟨a2, c2, e3, hc2, oj, hb2⟩ := hj j hjl
    refine ⟨a2, c2, e3, hc2, Own.by_ (oj.old g) gr (fun q y hx hy hxy => ?_), fun b hb => ⟨(oj.lt b hb).2, fun hx => ?_⟩⟩
    · subst hxy
      exact hb2 q hx hy
    · rcases hv' with e | e
      · exact hb2 b hb (e.symm.trans hx)
      · rw [e] at hx
        have := (oj.lt b hb).2
        simp only [Option.some.injEq] at hx
        omega
  have hnew : Own w' lo (.slice a r.length c) r := Own.low (Own.by_ o gr (fun q y hx hy hxy => by
    subst hxy
    have h1 := (o.lt q hx).1
    have h2 := hp q hy
    omega)) hlo
  have hnewb : ∀ b, (Value.slice a r.length c).ownBlock = some b → wr.heap.size ≤ b ∧ b < W.heap.size ∧ v'.ownBlock ≠ some b := fun b hb => by
    obtain ⟨h1, h2⟩ := o.lt b hb
    refine ⟨h1, h2, fun hx => ?_⟩
    rcases hv' with e | e
    · have := hp b (e.symm.trans hx)
      omega
    · rw [e] at hx
      simp only [Option.some.injEq] at hx
      omega
  have ho2 := ho'
  rcases ho'.2 with ⟨_, h0⟩ | ⟨p', cap', cur, e', hb', hgg, hnc, rest⟩
  · omega
  subst e'
  have hlt' : p' < w'.heap.size := (Array.getElem?_eq_some_iff.1 hgg).1
  refine ⟨Nat.le_refl _, Or.inr ⟨p', cap', vs ++ [.slice a r.length c], by simp, by simpa using hnc, hb', hlt', by simpa using ho2, by simp [hvl], fun j hjl => ?_, fun i j x y b hij hx hy hbx hby => ?_⟩⟩
  · simp at hjl
    rcases Nat.lt_or_ge j yss.length with h1 | h1
    · rw [getD_app1 yss r j h1]
      obtain ⟨a2, c2, e3, hc2, oj, hb2⟩ := hrow j h1
      refine ⟨a2, c2, by rw [List.getElem?_append_left (by omega)]; exact e3, hc2, ⟨oj, Nat.le_refl _, fun b hb => (oj.lt b hb).2⟩, fun b hb hx => (hb2 b hb).2 ?_⟩
      rw [hx]
      rfl
    · obtain rfl : j = yss.length := by omega
      rw [getD_app2 yss r]
      refine ⟨a, c, by rw [← hvl]; simp, hc, ⟨hnew, Nat.le_refl _, fun b hb => (hnew.lt b hb).2⟩, fun b hb hx => (hnewb b hb).2.2 ?_⟩
      rw [hx]
      rfl
  · have hjl : j < vs.length + 1 := by
      have := (List.getElem?_eq_some_iff.1 hy).1
      simpa using this
    rcases Nat.lt_or_ge j vs.length with h1 | h1
    · rw [List.getElem?_append_left (by omega)] at hx hy
      exact hd i j x y b hij hx hy hbx hby
    · obtain rfl : j = vs.length := by omega
      rw [List.getElem?_append_left (by omega)] at hx
      simp at hy
      subst hy
      obtain ⟨a2, c2, e3, hc2, oj, hb2⟩ := hrow i (by omega)
      rw [e3] at hx
      obtain rfl := Option.some.inj hx
      have h3 := (hb2 b hbx).1
      have h4 := (hnewb b hby).1
      omega
def pairR (f : Int → Int → Int → Int) (p : Int) (xs ys : List Int) : List Int := (List.range xs.length).map fun i => f p (xs.getD i 0) (ys.getD i 0)
def pairL (f : Int → Int → Int → Int) (ps : List Int) (xss yss : List (List Int)) : List (List Int) := (List.range ps.length).map fun k => pairR f (ps.getD k 0) (xss.getD k []) (yss.getD k [])
theorem pairR_len (f : Int → Int → Int → Int) (p : Int) (xs ys : List Int) : (pairR f p xs ys).length = xs.length := by simp [pairR]
theorem pairR_get (f : Int → Int → Int → Int) (p : Int) (xs ys : List Int) (i : Nat) (h : i < xs.length) : (pairR f p xs ys).getD i 0 = f p (xs.getD i 0) (ys.getD i 0) := by simp [pairR, List.getD, h]
theorem pairL_len (f : Int → Int → Int → Int) (ps : List Int) (xss yss : List (List Int)) : (pairL f ps xss yss).length = ps.length := by simp [pairL]
theorem pairL_get (f : Int → Int → Int → Int) (ps : List Int) (xss yss : List (List Int)) (k : Nat) (h : k < ps.length) : (pairL f ps xss yss).getD k [] = pairR f (ps.getD k 0) (xss.getD k []) (yss.getD k []) := by simp [pairL, List.getD, h]
theorem take_succL (xs : List (List Int)) (k : Nat) (h : k < xs.length) : xs.take (k + 1) = xs.take k ++ [xs.getD k []] := by
  rw [List.take_add_one]
  simp [List.getD, h]
def addF (p x y : Int) : Int := (x + y) % p
end Go.Proofs.YtakleianimcmdaaGreatDoor
/- Proved: rows of rows that are made whole and filled row by row. -/
namespace Go.Proofs.YtakleianimcmdaaGreatDoor
open Go.ChangeShapes Go.WideShapes Go.ChangeAt Go.RowKit
set_option linter.unusedVariables false
set_option linter.unusedSimpArgs false
theorem Row.recap {W : World} {a : Option Addr} {n c c' : Nat} {xs : List Int} (h : Row W (.slice a n c) xs) (h0 : xs ≠ []) : Row W (.slice a n c') xs := by
  rcases h with ⟨_, _, e, e'⟩ | ⟨b, o, cap, e, r⟩
  · exact absurd e' h0
  · simp only [Value.slice.injEq] at e
    obtain ⟨rfl, rfl, rfl⟩ := e
    exact Or.inr ⟨b, o, c', rfl, r⟩
end Go.Proofs.YtakleianimcmdaaGreatDoor
/- Proved: rows of rows as a law carries them: marks that are held still. -/
namespace Go.Proofs.YtakleianimcmdaaGreatDoor
open Go.ChangeShapes Go.WideShapes Go.ChangeAt Go.RowKit
set_option linter.unusedVariables false
set_option linter.unusedSimpArgs false
set_option maxRecDepth 100000 in
set_option maxHeartbeats 2000000 in
theorem heldIntSS_any (xss : List (List Int)) (v : Value) (k : Int) (lo hi : Nat) (w : World) (hv : OwM k xss w lo hi v) (hl : xss.length ≤ 1048576) (hr : ∀ r ∈ xss, r.length ≤ 1048576) (hk : 0 ≤ k) (hs : k + (offL xss xss.length : Int) ≤ 1073741824) :
    Calls Tryz.prog 131 #[v, .int .i64 k] w fun e w' => e = .returned (.int .i64 (k + offL xss xss.length)) ∧ Old w w' := by
  obtain ⟨a0, cap0, ev⟩ := hv.slice
  subst ev
  obtain ⟨yss, hyl, hym, hyo⟩ := hv
  have HR : Hid (∀ r ∈ xss, r.length ≤ 1048576) := hr
  have HY : Hid (RowS w (.slice a0 xss.length cap0) yss) := hyo.rowS
  have HL : Hid (yss.length = xss.length) := hyl
  have HM : Hid (∀ j, j < xss.length → yss.getD j [] = marks (k + offL xss j) (xss.getD j []).length) := hym
  have HS : Hid (k + (offL xss xss.length : Int) ≤ 1073741824) := hs
  clear hyl hym hyo hr hs
  go_enter Tryz.func131, Tryz.ntmps131
  go_wp2_with fail
  go_loopw [5, 1] (fun i l W => ∃ j : Nat, j ≤ xss.length ∧ i = .int .i64 j ∧ l = .int .i64 (k + offL xss j) ∧ Hid (Old w W)) (fun i _ _ => xss.length - (intOf i).toNat)
  case atStart => exact ⟨0, by omega, rfl, by rw [offL_zero]; simp, Old.refl _⟩
  case round =>
    obtain ⟨j, hj, rfl, rfl, HG⟩ := hrel
    by_cases hlt : j < xss.length
    · have d1 : decide ((j : Int) < (xss.length : Int)) = true := by simp; omega
      rcases HY.out with ⟨a, cap, e, e2⟩ | ⟨b, o, cap, us, e, hb2, h3, hc⟩
      · have := HL.out
        subst e2
        simp at this
        omega
      have hyl := HL.out
      rw [← hyl] at e
      simp only [Value.slice.injEq, true_and] at e
      obtain ⟨rfl, rfl⟩ := e
      obtain ⟨c0, r0⟩ := hc j (by omega)
      have exy := HM.out j hlt
      rw [exy] at r0
      have hm : xss.getD j [] ∈ xss := by simp [List.getD, hlt]
      have hrl := HR.out _ hm
      have hoj := offL_le xss (j + 1)
      have hos := offL_succ xss j hlt
      have hsum := HS.out
      obtain ⟨x1, y1, e1⟩ := r0.slice
      rw [e1] at c0 r0
      have q1 := (HG.out.cell (p := ⟨b, o + j, none⟩) hb2).trans c0
      have R1 : Hid (Row wr (.slice x1 (marks (k + offL xss j) (xss.getD j []).length).length y1) (marks (k + offL xss j) (xss.getD j []).length)) := r0.old HG.out
      have HN4 : Hid (k + (offL xss (j + 1) : Int) = k + (offL xss j : Int) + ((xss.getD j []).length : Int)) := by show _ = _; rw [hos]; omega
      have hkb : 0 ≤ k + (offL xss j : Int) ∧ k + (offL xss j : Int) + ((xss.getD j []).length : Int) ≤ 1073741824 := by omega
      clear hc c0 r0 e1 hm exy hyl h3 hoj hos hsum
      generalize hnn : (offL xss (j + 1)) = nxt at *
      generalize (offL xss j : Nat) = off at *
      generalize (xss.getD j []).length = n at *
      rw [marks_len] at *
      have cm := fun W h => heldInts_yes n (.slice x1 n y1) (k + off) W h (by omega) (by omega) (by omega)
      have d2 : decide (k + (off : Int) + (n : Int) < 0) = false := by simp; omega
      go_wp2_with fail
      refine (cm _ R1.out).mono ?_
      rintro e w2 ⟨rfl, g2⟩
      have N2 : Hid (Old w w2) := Old.trans HG.out g2
      clear g2 cm
      go_wp2_with fail
      refine ⟨⟨j + 1, by omega, by go_num, ?_, N2⟩, by simp [intOf]; omega⟩
      rw [hnn, HN4.out]
    · have d1 : decide ((j : Int) < (xss.length : Int)) = false := by simp; omega
      obtain rfl : j = xss.length := by omega
      go_wp2_with fail
      go_ret
      exact ⟨rfl, HG.out⟩
theorem offL_bd : ∀ (xss : List (List Int)) (m : Nat), (∀ r ∈ xss, r.length ≤ m) → offL xss xss.length ≤ xss.length * m
  | [], m, h => by simp [offL]
  | r :: rs, m, h => by
    have h1 := offL_bd rs m (fun r hr => h r (List.mem_cons_of_mem _ hr))
    have h2 := h r (List.mem_cons_self ..)
    show r.length + offL rs rs.length ≤ (rs.length + 1) * m
    rw [Nat.add_mul]
    omega
end Go.Proofs.YtakleianimcmdaaGreatDoor
