/- Proved: contracts of the model's functions on limbs: adding and taking away. -/
import Derived.Test.YtpcpahgflkjnaaaLimbs
namespace Go.Proofs.Ytpcpahgflkjnaaa
open Go.ChangeShapes Go.WideShapes Go.ChangeAt Go.RowKit
open M2
set_option linter.unusedVariables false
set_option linter.unusedSimpArgs false
theorem one_cellW (w : World) (x : Value) (t : TypeId) : ∀ j u, [x][j]? = some u → (w.alloc (.cells #[x] t)).cell? ((⟨w.heap.size, 0, none⟩ : Addr).add j) = some u := by
  intro j u hj
  match j, hj with
  | 0, hj => simp at hj; subst hj; simp [Addr.add]
theorem one_oneW (x : Int) : ∀ u ∈ [Value.int .i64 x], u.oneCell' = true := by intro u hu; simp at hu; subst hu; rfl
theorem Own.snocW {w : World} {base : Nat} {v : Value} {xs : List Nat} {y : Nat} (h : w.ownsRow base 3 1 v ((toI xs).length + 1) ((toI xs).map (Value.int .i64) ++ [.int .i64 (y : Int)])) : Own w base v (toI (xs ++ [y])) := by
  unfold Own
  rw [toI_append]
  simpa [toI] using h
theorem Old.growW {a b c : World} {v : Value} {xs : List Value} {n : Nat} (h : Old a b) (ho : b.ownsRow a.heap.size 3 1 v n xs) (g : b.grownBy c v.ownBlock) : Old a c :=
  Below.grown h g h.size (fun k hk => (ho.lt k hk).1)
set_option maxHeartbeats 2000000 in
theorem add_any (xs ys : List Nat) (v u : Value) (w : World) (hv : Row w v (toI xs)) (hu : Row w u (toI ys)) (ha : Lim xs) (hb : Lim ys) (la : xs.length ≤ 1048576) (lb : ys.length ≤ 1048576) :
    Calls Try.prog 14 #[v, u] w fun e w' => ∃ v', e = .returned v' ∧ Old w w' ∧ Own w' w.heap.size v' (toI (dig (val xs + val ys))) := by
  obtain ⟨i0, hi, hz0, hz1, hz2⟩ := info_parts Try.infoInt
  have HV : Hid (Row w v (toI xs)) := hv
  have HU : Hid (Row w u (toI ys)) := hu
  obtain ⟨a0, cap0, rfl⟩ := hv.sliceN
  obtain ⟨a1, cap1, rfl⟩ := hu.sliceN
  clear hv hu
  go_enter Try.func14, Try.ntmps14
  go_wp2_with fail
  go_loopw [5, 6, 7] (fun o c i W => ∃ (k : Nat) (out : List Nat) (cc : Nat), (k + cc ≤ 1048577 ∧ cc ≤ 1) ∧ i = .int .i64 k ∧ c = .int .i64 cc ∧ Hid (AddI xs ys k out cc) ∧ Hid (Own W w.heap.size o (toI out)) ∧ Hid (Old w W)) (fun _ c i _ => 2 * ((max xs.length ys.length) - (intOf i).toNat) + (intOf c).toNat)
  case atStart => exact ⟨0, [], 0, ⟨by omega, by omega⟩, rfl, rfl, AddI.start xs ys, World.ownsRow_nil _ _ _ _, Old.refl _⟩
  case round =>
    obtain ⟨k, out, cc, ⟨hk, hcc⟩, rfl, rfl, HI, HO, HG⟩ := hrel
    have hx := ha.getD k
    have hy := hb.getD k
    have STEP := HI.out.step ha hb
    have HS : Hid (AddI xs ys (k + 1) (out ++ [(cc + xs.getD k 0 + ys.getD k 0) % LB]) ((cc + xs.getD k 0 + ys.getD k 0) / LB)) := STEP
    clear STEP
    by_cases h1 : k < xs.length
    · obtain ⟨b, o, rfl, hb1, hc1⟩ := Row.at (HV.out.old HG.out) (by omega)
      have c1 := hc1 k h1
      clear hc1
      by_cases h2 : k < ys.length
      · obtain ⟨b', o', rfl, hb2, hc2⟩ := Row.at (HU.out.old HG.out) (by omega)
        have c2 := hc2 k h2
        clear hc2
        generalize xs.getD k 0 = x at *
        generalize ys.getD k 0 = y at *
        generalize hR : (cc + x + y) % LB = R at *
        generalize hQ : (cc + x + y) / LB = Q at *
        unfold LB at hR hQ hx hy
        have e3 : ((cc : Int) + (x : Int) + (y : Int)) % 268435456 = (R : Int) := by omega
        have e4 : ((cc : Int) + (x : Int) + (y : Int)) / 268435456 = (Q : Int) := by omega
        have hQ1 : Q ≤ 1 := by omega
        clear hR hQ
        go_wp2_with (at_builtin; refine wpList_append_own _ rfl _ _ 36 rfl w.heap.size 3 i0 (.int .i64 0) 1 8 Try.underlying36 hi hz0 hz1 hz2 rfl (by decide) _ _ _ rfl (HO.out.alloc _) ⟨wr.heap.size, 0, none⟩ 1 1 [.int .i64 (R : Int)] rfl rfl (one_cellW _ _ _) (one_oneW _) (by rw [toI_len, HI.out.len]; unfold maxLen; omega) (by rw [toI_len, HI.out.len]; omega) (by have := HG.out.size; simp; omega) ?_; intro v' w1 hown hgrow _; have HO2 : Hid (Own w1 w.heap.size v' (toI (out ++ [R]))) := Own.snocW hown; have HG2 : Hid (Old w w1) := Old.growW (HG.out.alloc _) (HO.out.alloc _) hgrow; clear hown hgrow)
        exact ⟨⟨k + 1, out ++ [R], Q, ⟨by omega, hQ1⟩, by go_num, by first | rw [e4] | (rw [hQ0 hcc]; rfl), HS, HO2, HG2⟩, by simp [intOf]; omega⟩
      · have ey0 : ys.getD k 0 = 0 := by simp [List.getD, List.getElem?_eq_none (show ys.length ≤ k by omega)]
        generalize xs.getD k 0 = x at *
        rw [ey0] at HS
        clear ey0 hy
        generalize hR : (cc + x + 0) % LB = R at *
        generalize hQ : (cc + x + 0) / LB = Q at *
        unfold LB at hR hQ hx
        have e3 : ((cc : Int) + (x : Int)) % 268435456 = (R : Int) := by omega
        have e4 : ((cc : Int) + (x : Int)) / 268435456 = (Q : Int) := by omega
        have hQ1 : Q ≤ 1 := by omega
        clear hR hQ
        go_wp2_with (at_builtin; refine wpList_append_own _ rfl _ _ 36 rfl w.heap.size 3 i0 (.int .i64 0) 1 8 Try.underlying36 hi hz0 hz1 hz2 rfl (by decide) _ _ _ rfl (HO.out.alloc _) ⟨wr.heap.size, 0, none⟩ 1 1 [.int .i64 (R : Int)] rfl rfl (one_cellW _ _ _) (one_oneW _) (by rw [toI_len, HI.out.len]; unfold maxLen; omega) (by rw [toI_len, HI.out.len]; omega) (by have := HG.out.size; simp; omega) ?_; intro v' w1 hown hgrow _; have HO2 : Hid (Own w1 w.heap.size v' (toI (out ++ [R]))) := Own.snocW hown; have HG2 : Hid (Old w w1) := Old.growW (HG.out.alloc _) (HO.out.alloc _) hgrow; clear hown hgrow)
        exact ⟨⟨k + 1, out ++ [R], Q, ⟨by omega, hQ1⟩, by go_num, by first | rw [e4] | (rw [hQ0 hcc]; rfl), HS, HO2, HG2⟩, by simp [intOf]; omega⟩
    · by_cases h2 : k < ys.length
      · obtain ⟨b', o', rfl, hb2, hc2⟩ := Row.at (HU.out.old HG.out) (by omega)
        have c2 := hc2 k h2
        clear hc2
        have ex0 : xs.getD k 0 = 0 := by simp [List.getD, List.getElem?_eq_none (show xs.length ≤ k by omega)]
        rw [ex0] at HS
        clear ex0 hx
        generalize ys.getD k 0 = y at *
        generalize hR : (cc + 0 + y) % LB = R at *
        generalize hQ : (cc + 0 + y) / LB = Q at *
        unfold LB at hR hQ hy
        have e3 : ((cc : Int) + (y : Int)) % 268435456 = (R : Int) := by omega
        have e4 : ((cc : Int) + (y : Int)) / 268435456 = (Q : Int) := by omega
        have hQ1 : Q ≤ 1 := by omega
        clear hR hQ
        go_wp2_with (at_builtin; refine wpList_append_own _ rfl _ _ 36 rfl w.heap.size 3 i0 (.int .i64 0) 1 8 Try.underlying36 hi hz0 hz1 hz2 rfl (by decide) _ _ _ rfl (HO.out.alloc _) ⟨wr.heap.size, 0, none⟩ 1 1 [.int .i64 (R : Int)] rfl rfl (one_cellW _ _ _) (one_oneW _) (by rw [toI_len, HI.out.len]; unfold maxLen; omega) (by rw [toI_len, HI.out.len]; omega) (by have := HG.out.size; simp; omega) ?_; intro v' w1 hown hgrow _; have HO2 : Hid (Own w1 w.heap.size v' (toI (out ++ [R]))) := Own.snocW hown; have HG2 : Hid (Old w w1) := Old.growW (HG.out.alloc _) (HO.out.alloc _) hgrow; clear hown hgrow)
        exact ⟨⟨k + 1, out ++ [R], Q, ⟨by omega, hQ1⟩, by go_num, by first | rw [e4] | (rw [hQ0 hcc]; rfl), HS, HO2, HG2⟩, by simp [intOf]; omega⟩
      · rcases Nat.eq_zero_or_pos cc with hc0 | hc0
        · subst hc0
          have HT : Hid (trim out = dig (val xs + val ys)) := HI.out.done (by omega) (by omega) rfl
          have HL : Hid (Lim out ∧ out.length = k) := ⟨HI.out.lim, HI.out.len⟩
          clear HS HI
          go_wp2_with fail
          refine (trim_any out _ w.heap.size _ HO.out HL.out.1 (by have := HL.out.2; omega)).mono ?_
          rintro e w1 ⟨v', rfl, g1, o1⟩
          have HG2 : Hid (Old w w1) := Old.trans HG.out g1
          have HO2 : Hid (Own w1 w.heap.size v' (toI (trim out))) := o1
          clear g1 o1
          go_wp2_with fail
          go_ret
          exact ⟨_, rfl, HG2.out, by rw [← HT.out]; exact HO2.out⟩
        · have ex0 : xs.getD k 0 = 0 := by simp [List.getD, List.getElem?_eq_none (show xs.length ≤ k by omega)]
          have ey0 : ys.getD k 0 = 0 := by simp [List.getD, List.getElem?_eq_none (show ys.length ≤ k by omega)]
          rw [ex0] at HS
          clear ex0 hx
          rw [ey0] at HS
          clear ey0 hy
          generalize hR : (cc + 0 + 0) % LB = R at *
          generalize hQ : (cc + 0 + 0) / LB = Q at *
          unfold LB at hR hQ
          have e3 : ((cc : Int)) % 268435456 = (R : Int) := by omega
          have e4 : ((cc : Int)) / 268435456 = (Q : Int) := by omega
          have hQ1 : Q ≤ 1 := by omega
          have hQ0 : cc ≤ 1 → Q = 0 := by omega
          clear hR hQ
          have dc : decide (0 < cc) = true := by simp; omega
          go_wp2_with (at_builtin; refine wpList_append_own _ rfl _ _ 36 rfl w.heap.size 3 i0 (.int .i64 0) 1 8 Try.underlying36 hi hz0 hz1 hz2 rfl (by decide) _ _ _ rfl (HO.out.alloc _) ⟨wr.heap.size, 0, none⟩ 1 1 [.int .i64 (R : Int)] rfl rfl (one_cellW _ _ _) (one_oneW _) (by rw [toI_len, HI.out.len]; unfold maxLen; omega) (by rw [toI_len, HI.out.len]; omega) (by have := HG.out.size; simp; omega) ?_; intro v' w1 hown hgrow _; have HO2 : Hid (Own w1 w.heap.size v' (toI (out ++ [R]))) := Own.snocW hown; have HG2 : Hid (Old w w1) := Old.growW (HG.out.alloc _) (HO.out.alloc _) hgrow; clear hown hgrow)
          exact ⟨⟨k + 1, out ++ [R], Q, ⟨by omega, hQ1⟩, by go_num, by first | rw [e4] | (rw [hQ0 hcc]; rfl), HS, HO2, HG2⟩, by simp [intOf]; omega⟩
end Go.Proofs.Ytpcpahgflkjnaaa
