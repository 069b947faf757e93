/- Proved: the contract of the program's divideByWord. -/
import Derived.Test.YtjedpceiimceoaaDoorSzAdd
namespace Go.Proofs.YtjedpceiimceoaaDoor
open Go.ChangeShapes Go.WideShapes Go.ChangeAt Go.RowKit
open M2
set_option linter.unusedVariables false
set_option linter.unusedSimpArgs false

structure DwI (a d k : Nat) (cur : List Nat) (r : Nat) : Prop where
  lim : Lim cur
  len : cur.length = 80
  eq : val cur = val ((dig a).take k) + LB ^ k * (val ((dig a).drop k) / d)
  lo : ∀ j, j < k → cur.getD j 0 = (dig a).getD j 0
  r_eq : r = val ((dig a).drop k) % d
theorem DwI.start (a d : Nat) (ha : cnt a ≤ 80) : DwI a d (cnt a) (pad a) 0 :=
  ⟨pad_lim a, pad_len ha, by rw [pad_val, take_cnt a _ (Nat.le_refl _), val_dig]; unfold cnt; simp [val], fun j _ => pad_getD a j, by unfold cnt; simp [val]⟩
theorem DwI.step {a d j : Nat} {cur : List Nat} {r : Nat} (h : DwI a d (j + 1) cur r) (hd : 0 < d) (hj : j < cnt a) (ha : cnt a ≤ 80) :
    DwI a d j (cur.set j ((r * LB + (dig a).getD j 0) / d)) ((r * LB + (dig a).getD j 0) % d) ∧ (r * LB + (dig a).getD j 0) / d < LB := by
  have hr := h.r_eq
  have h2 := (dig_lim a).getD j
  have h1 : r < d := by rw [hr]; exact Nat.mod_lt _ hd
  have hlt : (r * LB + (dig a).getD j 0) / d < LB := by
    refine Nat.div_lt_of_lt_mul ?_
    have h3 : (r + 1) * LB ≤ d * LB := Nat.mul_le_mul h1 (Nat.le_refl _)
    rw [Nat.add_mul] at h3
    omega
  have f := div_facts (val ((dig a).drop (j + 1))) d ((dig a).getD j 0) hd
  rw [← val_drop_getD (dig a) j hj, ← hr] at f
  have hs := val_set cur j ((r * LB + (dig a).getD j 0) / d) (by rw [h.len]; omega)
  have e := h.eq
  refine ⟨⟨h.lim.set _ _ hlt, by rw [List.length_set, h.len], ?_, ?_, f.2.symm⟩, hlt⟩
  · rw [h.lo j (by omega)] at hs
    rw [val_take_succ, Nat.pow_succ] at e
    rw [f.1, Nat.mul_add, ← Nat.mul_assoc]
    omega
  · intro i hi
    rw [← h.lo i (by omega)]
    simp [List.getD, show ¬ j = i by omega]
theorem DwI.done {a d : Nat} {cur : List Nat} {r : Nat} (h : DwI a d 0 cur r) : cur = pad (a / d) ∧ r = a % d := by
  have e := h.eq
  have hr := h.r_eq
  simp [val, val_dig] at e hr
  exact ⟨by rw [← e]; exact pad_of h.lim h.len, hr⟩
set_option maxHeartbeats 2000000 in
theorem word_sz (a d : Nat) (w : World) (ha : cnt a ≤ 80) (hd : 0 < d) (hd2 : d ≤ 268435456) :
    Calls Tryd.prog 50 #[.agg (szV a), .int .i64 (d : Int)] w fun e w' => e = .returned (.tuple #[.agg (szV (a / d)), .int .i64 ((a % d : Nat) : Int)]) ∧ Old w w' := by
  have HLA := pad_len' ha (by omega)
  have a80 := szA_cnt HLA (cnt a)
  have HPA : Hid ((pad a).length = 80) := HLA
  clear HLA
  unfold szV
  go_enter Tryd.func50, Tryd.ntmps50
  go_wp2_with fail
  clear a80
  go_loopw [6, 7] (fun rs i W => ∃ (k : Nat) (cur : List Nat) (r : Nat), k ≤ cnt a ∧ i = .int .i64 ((k : Int) - 1) ∧ rs = .int .i64 (r : Int) ∧ r < d ∧ Hid (DwI a d k cur r) ∧ Hid (Sz W w.heap.size cur (cnt a)) ∧ Hid (Sz W (w.heap.size + 1) (ext []) 0) ∧ Hid (Old w W)) (fun _ i _ => (intOf i + 1).toNat)
  case atStart => exact ⟨cnt a, pad a, 0, Nat.le_refl _, rfl, rfl, hd, DwI.start _ _ ha, (Sz.new w _ _ HPA.out).alloc _, Sz.zero _ _ (by simp), ((Old.refl w).alloc _).alloc _⟩
  case round =>
      obtain ⟨k, cur, r, hk, rfl, rfl, hr, HI, HS, HR, HG⟩ := hrel
      rcases Nat.eq_zero_or_pos k with hk0 | hk0
      · subst hk0
        have c1 := HS.out.cnt
        obtain ⟨HE1, HE3⟩ := HI.out.done
        have HE : Hid (cnt (a / d) ≤ cnt a) := cnt_mono (Nat.div_le_self _ _)
        have HPS : Hid ((pad (a / d)).length = 80) := pad_len' HE.out (by omega)
        have HD : Hid (Sz wr w.heap.size (pad (a / d)) (cnt a)) := by
          have := HS.out
          rw [HE1] at this
          exact this
        subst HE3
        clear HE1 HI HS
        go_wp2_with (first | ((with_reducible refine load_sz HD.out ?_ ?_); exact rfl; simp only [Act.put, List.setIfInBounds_toArray, List.set_cons_succ, List.set_cons_zero]) | (go_at_call 53; refine (trimmed_pad (a / d) (cnt a) (cnt a) _ HE.out (by omega)).mono ?_; rintro e w5 ⟨rfl, g5⟩; have HR5 : Hid (Sz w5 (w.heap.size + 1) (ext []) 0) := HR.out.old g5; have HG5 : Hid (Old w w5) := Old.trans HG.out g5) | ((with_reducible refine store_sz HR5.out (pad (a / d)) (cnt (a / d)) HPS.out ?_ ?_ ?_); exact rfl; exact rfl; simp only [Act.put]) | ((with_reducible refine bodyPost_ret (ret_szi (y := .int .i64 ((a % d : Nat) : Int)) Tryd.results50 _ _ ?_ ?_ (HR5.out.row (pad (a / d)) (cnt (a / d)) HPS.out)) ?_ ?_); exact rfl; exact rfl; exact rfl; exact ⟨rfl, HG5.out.row (by omega) _⟩))
      · obtain ⟨j, rfl⟩ : ∃ j, k = j + 1 := ⟨k - 1, by omega⟩
        have i0 : ((j + 1 : Nat) : Int) - 1 = (j : Int) := by omega
        rw [i0]
        have d0 : decide ((0 : Int) ≤ (j : Int)) = true := by simp
        have i1 : (j : Int) < 80 := by omega
        have c1 := HS.out.at (j := j) (by omega)
        rw [HI.out.lo j (by omega)] at c1
        have f1 := HS.out.fro j
        have l1 := (dig_lim a).getD j
        obtain ⟨HN, HQ⟩ := HI.out.step hd (by omega) ha
        have HN' : Hid (DwI a d j (cur.set j ((r * LB + (dig a).getD j 0) / d)) ((r * LB + (dig a).getD j 0) % d)) := HN
        have hr1 : (r * LB + (dig a).getD j 0) % d < d := Nat.mod_lt _ hd
        clear HN HQ i0
        generalize (dig a).getD j 0 = x at *
        have hx : x < 268435456 := l1
        clear l1
        have hd0 : ((d : Int) == 0) = false := by simp; omega
        have hdn : ¬ d = 0 := by omega
        have hnn : (0 : Int) ≤ (r : Int) * 268435456 + (x : Int) := by omega
        have hdp : (0 : Int) < (d : Int) := by omega
        have e1 : ((r : Int) * 268435456 + (x : Int)) / (d : Int) = (((r * LB + x) / d : Nat) : Int) := by
          rw [Int.natCast_ediv, Int.natCast_add, Int.natCast_mul]; rfl
        have e2 : ((r : Int) * 268435456 + (x : Int)) % (d : Int) = (((r * LB + x) % d : Nat) : Int) := by
          rw [Int.natCast_emod, Int.natCast_add, Int.natCast_mul]; rfl
        generalize (r * LB + x) / d = u at *
        generalize (r * LB + x) % d = r' at *
        go_wp2_with fail
        exact ⟨⟨j, cur.set j u, r', by omega, rfl, by first | rfl | rw [e2], hr1, HN', HS.out.set (by omega) u, HR.out.other _ (by simp) _, HG.out.own (by simp) _⟩, by first | (simp [intOf]; done) | (simp [intOf]; omega)⟩
end Go.Proofs.YtjedpceiimceoaaDoor
