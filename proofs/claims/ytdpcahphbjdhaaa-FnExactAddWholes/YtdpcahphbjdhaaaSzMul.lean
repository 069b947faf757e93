/- Proved: the contract of the program's mulSizes. -/
import Derived.Test.YtdpcahphbjdhaaaSzAdd
namespace Go.Proofs.Ytdpcahphbjdhaaa
open Go.ChangeShapes Go.WideShapes Go.ChangeAt Go.RowKit
open M2
set_option linter.unusedVariables false
set_option linter.unusedSimpArgs false

/-- multiplying, i limbs far -/
structure MuI (a b i : Nat) (cur : List Nat) : Prop where
  lim : Lim cur
  len : cur.length = 80
  eq : val cur = val ((dig a).take i) * b
  up : ∀ j, i + cnt b ≤ j → cur.getD j 0 = 0
/-- and k limbs of the other one -/
structure MkI (a b i k : Nat) (cur : List Nat) (c : Nat) : Prop where
  mul : MulI 80 (i + k) (val ((dig a).take i) * b + LB ^ i * (dig a).getD i 0 * val ((dig b).take k)) cur c
  up : ∀ j, i + cnt b ≤ j → cur.getD j 0 = 0
theorem MuI.start (a b : Nat) : MuI a b 0 (ext []) :=
  ⟨ext_lim Lim.nil, ext_len (by simp), by rw [ext_val]; simp [val], fun j _ => by rw [ext_getD]; simp⟩
theorem MkI.start {a b i : Nat} {cur : List Nat} (h : MuI a b i cur) : MkI a b i 0 cur 0 :=
  ⟨⟨h.lim, h.len, by rw [h.eq]; simp [val], LB_pos⟩, h.up⟩
theorem MkI.step {a b i k : Nat} {cur : List Nat} {c : Nat} (h : MkI a b i k cur c) (hk : k < cnt b) (hi : i + cnt b ≤ 80) :
    MkI a b i (k + 1) (cur.set (i + k) ((c + (cur.getD (i + k) 0 + (dig a).getD i 0 * (dig b).getD k 0)) % LB)) ((c + (cur.getD (i + k) 0 + (dig a).getD i 0 * (dig b).getD k 0)) / LB) := by
  have l1 := (dig_lim a).getD i
  have l2 := (dig_lim b).getD k
  have hz : (dig a).getD i 0 * (dig b).getD k 0 ≤ (LB - 1) * (LB - 1) := Nat.mul_le_mul (by omega) (by omega)
  have := h.mul.step _ hz (by omega)
  have e := mul_row_step (dig a) (dig b) ((dig a).getD i 0) i k
  rw [val_dig] at e
  rw [e] at this
  refine ⟨this, fun j hj => ?_⟩
  refine Eq.trans ?_ (h.up j hj)
  simp [List.getD, show ¬ i + k = j by omega]
theorem MkI.done {a b i : Nat} {cur : List Nat} {c : Nat} (h : MkI a b i (cnt b) cur c) (hi : i + cnt b < 80) : MuI a b (i + 1) (cur.set (i + cnt b) c) := by
  have hs := val_set cur (i + cnt b) c (by rw [h.mul.len]; exact hi)
  rw [h.up _ (Nat.le_refl _), Nat.mul_zero, Nat.add_zero] at hs
  refine ⟨h.mul.lim.set _ _ h.mul.c1, by rw [List.length_set, h.mul.len], ?_, ?_⟩
  · rw [hs, h.mul.eq, take_cnt b _ (Nat.le_refl _), val_dig, val_take_succ, Nat.add_mul]
  · intro j hj
    refine Eq.trans ?_ (h.up j (by omega))
    simp [List.getD, show ¬ i + cnt b = j by omega]
theorem MuI.done {a b : Nat} {cur : List Nat} (h : MuI a b (cnt a) cur) : cur = pad (a * b) := by
  have e := h.eq
  rw [take_cnt a _ (Nat.le_refl _), val_dig] at e
  rw [← e]
  exact pad_of h.lim h.len
theorem cnt_mul (a b : Nat) : cnt (a * b) ≤ cnt a + cnt b := by
  refine cnt_le ?_
  have h1 := cnt_lt a
  have h2 := cnt_lt b
  rw [Nat.pow_add]
  have h3 : a * b ≤ a * LB ^ cnt b := Nat.mul_le_mul_left _ (Nat.le_of_lt h2)
  have h4 : a * LB ^ cnt b < LB ^ cnt a * LB ^ cnt b := Nat.mul_lt_mul_of_pos_right h1 (pw _)
  omega
set_option maxHeartbeats 4000000 in
theorem mul_sz (a b : Nat) (w : World) (hab : cnt a + cnt b ≤ 80) :
    Calls Try.prog 66 #[.agg (szV a), .agg (szV b)] w fun e w' => e = .returned (.agg (szV (a * b))) ∧ Old w w' := by
  have ha : cnt a ≤ 80 := by omega
  have hb : cnt b ≤ 80 := by omega
  have HLA := pad_len' ha (by omega)
  have HLB := pad_len' hb (by omega)
  have a80 := szA_cnt HLA (cnt a)
  have HPA : Hid ((pad a).length = 80) := HLA
  have HPB : Hid ((pad b).length = 80) := HLB
  clear HLA HLB
  unfold szV
  go_enter Try.func66, Try.ntmps66
  go_wp2_with fail
  clear a80
  go_loopw [11] (fun v W => ∃ (i : Nat) (cur : List Nat), i ≤ cnt a ∧ v = .int .i64 (i : Int) ∧ Hid (MuI a b i cur) ∧ Hid (Sz W w.heap.size (pad a) (cnt a)) ∧ Hid (Sz W (w.heap.size + 1) (pad b) (cnt b)) ∧ Hid (Sz W (w.heap.size + 1 + 1) (ext []) 0) ∧ Hid (Sz W (w.heap.size + 1 + 1 + 1) cur 0) ∧ Hid (Old w W)) (fun v _ => cnt a - (intOf v).toNat)
  case atStart => exact ⟨0, ext [], by omega, rfl, MuI.start _ _, (((Sz.new w _ _ HPA.out).alloc _).alloc _).alloc _, (((Sz.new' _ _ _ _ HPB.out (by simp)).alloc _).alloc _), ((Sz.zero _ _ (by simp)).alloc _), Sz.zero _ _ (by simp), ((((Old.refl w).alloc _).alloc _).alloc _).alloc _⟩
  case round =>
      obtain ⟨i, cur0, hi, rfl, HI, HSA, HSB, HR, HO, HG⟩ := hrel
      by_cases hlt : i < cnt a
      · have b80 := HSB.out.cnt
        go_wp2_with fail
        clear b80
        go_loopw [7, 16] (fun cy v W => ∃ (k : Nat) (cur : List Nat) (c : Nat), k ≤ cnt b ∧ v = .int .i64 (k : Int) ∧ cy = .int .i64 (c : Int) ∧ c < 268435456 ∧ Hid (MkI a b i k cur c) ∧ Hid (Sz W w.heap.size (pad a) (cnt a)) ∧ Hid (Sz W (w.heap.size + 1) (pad b) (cnt b)) ∧ Hid (Sz W (w.heap.size + 1 + 1) (ext []) 0) ∧ Hid (Sz W (w.heap.size + 1 + 1 + 1) cur 0) ∧ Hid (Old w W)) (fun _ v _ => cnt b - (intOf v).toNat)
        case atStart => exact ⟨0, cur0, 0, by omega, rfl, rfl, by omega, MkI.start HI.out, HSA, HSB, HR, HO, HG⟩
        case round =>
          clear HI HSA HSB HR HO HG
          obtain ⟨k, cur, c, hk, rfl, rfl, hc, HI, HSA, HSB, HR, HO, HG⟩ := hrel
          by_cases hlt2 : k < cnt b
          · have i1 : (i : Int) < 80 := by omega
            have i2 : (k : Int) < 80 := by omega
            have i3 : (i : Int) + (k : Int) < 80 := by omega
            have i4 : ((i : Int) + (k : Int)).toNat = i + k := by omega
            have c1 := HSA.out.at (j := i) (by omega)
            have c2 := HSB.out.at (j := k) (by omega)
            have c3 := HO.out.at (j := i + k) (by omega)
            have f1 := HO.out.fro (i + k)
            rw [pad_getD] at c1 c2
            have l1 := (dig_lim a).getD i
            have l2 := (dig_lim b).getD k
            have l3 := HI.out.mul.lim.getD (i + k)
            have HN := HI.out.step hlt2 (by omega)
            have HN' : Hid (MkI a b i (k + 1) (cur.set (i + k) ((c + (cur.getD (i + k) 0 + (dig a).getD i 0 * (dig b).getD k 0)) % LB)) ((c + (cur.getD (i + k) 0 + (dig a).getD i 0 * (dig b).getD k 0)) / LB)) := HN
            have hc1 : (c + (cur.getD (i + k) 0 + (dig a).getD i 0 * (dig b).getD k 0)) / LB < 268435456 := HN.mul.c1
            clear HN
            generalize (dig a).getD i 0 = x at *
            generalize (dig b).getD k 0 = y at *
            generalize cur.getD (i + k) 0 = z at *
            have hx : x < 268435456 := l1
            have hy : y < 268435456 := l2
            have hz : z < 268435456 := l3
            clear l1 l2 l3
            have hp : x * y ≤ 268435455 * 268435455 := Nat.mul_le_mul (by omega) (by omega)
            have b1 : (x : Int) * (y : Int) ≤ 72057593501057025 := by
              have := Int.ofNat_le.2 hp
              rw [Int.natCast_mul] at this
              exact this
            have b0 : 0 ≤ (x : Int) * (y : Int) := Int.mul_nonneg (Int.natCast_nonneg _) (Int.natCast_nonneg _)
            have E0 : Hid ((x : Int) * (y : Int) = ((x * y : Nat) : Int)) := (Int.natCast_mul _ _).symm
            clear hp
            have e1 : ((c : Int) + ((z : Int) + (x : Int) * (y : Int))) % 268435456 = (((c + (z + x * y)) % LB : Nat) : Int) := by rw [E0.out]; unfold LB; omega
            have e2 : ((c : Int) + ((z : Int) + (x : Int) * (y : Int))) / 268435456 = (((c + (z + x * y)) / LB : Nat) : Int) := by rw [E0.out]; unfold LB; omega
            generalize (c + (z + x * y)) % LB = u at *
            generalize (c + (z + x * y)) / LB = c' at *
            go_wp2_with fail
            go_quiet (fail)
            go_wp2_with fail
            exact ⟨⟨k + 1, cur.set (i + k) u, c', by omega, by go_num, by first | rfl | rw [e2], hc1, HN', (HSA.out.drew _).other _ (by first | (simp; done) | (simp; omega)) _, (HSB.out.drew _).other _ (by first | (simp; done) | (simp; omega)) _, (HR.out.drew _).other _ (by simp) _, (HO.out.drew _).set (by omega) u, (HG.out.drewN _).own (by simp; omega) _⟩, by simp [intOf]; omega⟩
          · obtain rfl : k = cnt b := by omega
            have i3 : (i : Int) + ((cnt b : Nat) : Int) < 80 := by omega
            have i4 : ((i : Int) + ((cnt b : Nat) : Int)).toNat = i + cnt b := by omega
            have b80 := HSB.out.cnt
            have c3 := HO.out.at (j := i + cnt b) (by omega)
            have f1 := HO.out.fro (i + cnt b)
            have HN : Hid (MuI a b (i + 1) (cur.set (i + cnt b) c)) := HI.out.done (by omega)
            generalize cur.getD (i + cnt b) 0 = z at *
            go_wp2_with fail
            exact ⟨⟨i + 1, cur.set (i + cnt b) c, by omega, by go_num, HN, HSA.out.other _ (by first | (simp; done) | (simp; omega)) _, HSB.out.other _ (by first | (simp; done) | (simp; omega)) _, HR.out.other _ (by simp) _, HO.out.set (by omega) c, HG.out.own (by simp; omega) _⟩, by simp [intOf]; omega⟩
      · obtain rfl : i = cnt a := by omega
        have a80 := HSA.out.cnt
        have b80 := HSB.out.cnt
        have HE : Hid (cnt (a * b) ≤ cnt a + cnt b) := cnt_mul a b
        have HPS : Hid ((pad (a * b)).length = 80) := pad_len' HE.out (by omega)
        have HD : Hid (Sz wr (w.heap.size + 1 + 1 + 1) (pad (a * b)) 0) := by
          have := HO.out
          rw [HI.out.done] at this
          exact this
        clear HI HO HSA HSB
        go_wp2_with (first | ((with_reducible refine load_sz HD.out ?_ ?_); exact rfl; simp only [Act.put, List.setIfInBounds_toArray, List.set_cons_succ, List.set_cons_zero]) | (go_at_call 83; refine (trimmed_pad (a * b) 0 (cnt a + cnt b) _ HE.out (by omega)).mono ?_; rintro e w5 ⟨rfl, g5⟩; have HR5 : Hid (Sz w5 (w.heap.size + 1 + 1) (ext []) 0) := HR.out.old g5; have HG5 : Hid (Old w w5) := Old.trans HG.out g5) | ((with_reducible refine store_sz HR5.out (pad (a * b)) (cnt (a * b)) HPS.out ?_ ?_ ?_); exact rfl; exact rfl; simp only [Act.put]) | ((with_reducible refine bodyPost_ret (ret_sz Try.results66 _ _ ?_ (HR5.out.row (pad (a * b)) (cnt (a * b)) HPS.out)) ?_ ?_); exact rfl; exact rfl; exact ⟨rfl, HG5.out.row (by omega) _⟩))
end Go.Proofs.Ytdpcahphbjdhaaa
