/- Proved: the contract of the program's lessSize. -/
import Derived.Test.YtpcpahgflkjnaaaSzAdd
namespace Go.Proofs.Ytpcpahgflkjnaaa
open Go.ChangeShapes Go.WideShapes Go.ChangeAt Go.RowKit
open M2
set_option linter.unusedVariables false
set_option linter.unusedSimpArgs false

theorem sub_done {a b : Nat} {out : List Nat} {c : Nat} (h : SubI (dig a) (dig b) (cnt a) out c) (hle : b ≤ a) (hk : cnt a ≤ 80) : ext out = pad (a - b) ∧ cnt (a - b) ≤ cnt a := by
  have hd := h.done (show (dig a).length = cnt a from rfl) (cnt_mono hle) (by rw [val_dig, val_dig]; exact hle)
  have hv : val out = a - b := by
    have := val_trim out
    rw [hd, val_dig, val_dig, val_dig] at this
    exact this.symm
  refine ⟨?_, cnt_mono (Nat.sub_le _ _)⟩
  rw [pad_of (ext_lim h.lim) (ext_len (by rw [h.len]; exact hk)), ext_val, hv]
set_option maxHeartbeats 2000000 in
theorem less_sz (a b : Nat) (w : World) (hle : b ≤ a) (ha : cnt a ≤ 80) :
    Calls Try.prog 28 #[.agg (szV a), .agg (szV b)] w fun e w' => e = .returned (.agg (szV (a - b))) ∧ Old w w' := by
  have HLA := pad_len' ha (by omega)
  have HLB := pad_len' (Nat.le_trans (cnt_mono hle) ha) (by omega)
  have a80 := szA_cnt HLA (cnt a)
  have HPA : Hid ((pad a).length = 80) := HLA
  have HPB : Hid ((pad b).length = 80) := HLB
  clear HLA HLB
  unfold szV
  go_enter Try.func28, Try.ntmps28
  go_wp2_with fail
  clear a80
  go_loopw [6, 10] (fun cy i W => ∃ (k : Nat) (out : List Nat) (c : Nat), k ≤ cnt a ∧ i = .int .i64 (k : Int) ∧ cy = .int .i64 (-(c : Int)) ∧ c ≤ 1 ∧ Hid (SubI (dig a) (dig b) k out c) ∧ Hid (Sz W w.heap.size (pad a) (cnt a)) ∧ Hid (Sz W (w.heap.size + 1) (pad b) (cnt b)) ∧ Hid (Sz W (w.heap.size + 1 + 1) (ext []) 0) ∧ Hid (Sz W (w.heap.size + 1 + 1 + 1) (ext out) 0) ∧ Hid (Old w W)) (fun _ i _ => cnt a - (intOf i).toNat)
  case atStart => exact ⟨0, [], 0, by omega, rfl, rfl, by omega, SubI.start _ _, (((Sz.new w _ _ HPA.out).alloc _).alloc _).alloc _, (((Sz.new' _ _ _ _ HPB.out (by simp)).alloc _).alloc _), ((Sz.zero _ _ (by simp)).alloc _), Sz.zero _ _ (by simp), ((((Old.refl w).alloc _).alloc _).alloc _).alloc _⟩
  case round =>
      obtain ⟨k, out, c, hk, rfl, rfl, hc, HI, HSA, HSB, HR, HO, HG⟩ := hrel
      by_cases hlt : k < cnt a
      · have i1 : (k : Int) < 80 := by omega
        have c1 := HSA.out.at (j := k) (by omega)
        have c2 := HSB.out.at (j := k) (by omega)
        have f1 := HO.out.fro k
        have c3 := HO.out.at (j := k) (by omega)
        rw [pad_getD] at c1 c2
        have l1 := (dig_lim a).getD k
        have l2 := (dig_lim b).getD k
        have HL : Hid (out.length = k) := HI.out.len
        have HN1 : Hid (c + (dig b).getD k 0 ≤ (dig a).getD k 0 → SubI (dig a) (dig b) (k + 1) (out ++ [(dig a).getD k 0 - c - (dig b).getD k 0]) 0) := fun h => HI.out.stepNo (dig_lim a) h
        have HN2 : Hid ((dig a).getD k 0 < c + (dig b).getD k 0 → SubI (dig a) (dig b) (k + 1) (out ++ [(dig a).getD k 0 + LB - c - (dig b).getD k 0]) 1) := fun h => HI.out.stepYes (dig_lim a) (dig_lim b) h
        generalize (dig a).getD k 0 = x at *
        generalize (dig b).getD k 0 = y at *
        generalize (ext out).getD k 0 = z at *
        have hx : x < 268435456 := l1
        have hy : y < 268435456 := l2
        clear l1 l2
        by_cases hle2 : c + y ≤ x
        · skip
          go_wp2_with fail
          go_quiet (fail)
          have e1 : bits .and .i64 (-(c : Int) + ((x : Int) - (y : Int))) 268435455 = ((x - c - y : Nat) : Int) := by rw [and_low]; omega
          have e2 : (-(c : Int) + ((x : Int) - (y : Int))) / 268435456 = 0 := by omega
          have HN' : Hid (SubI (dig a) (dig b) (k + 1) (out ++ [x - c - y]) 0) := HN1.out hle2
          go_wp2_with fail
          refine ⟨⟨k + 1, out ++ [x - c - y], 0, by omega, by go_num, by first | rfl | simp | (rw [e2]; rfl), by omega, HN', (HSA.out.drew _).other _ (by first | (simp; done) | (simp; omega)) _, (HSB.out.drew _).other _ (by first | (simp; done) | (simp; omega)) _, (HR.out.drew _).other _ (by simp) _, ?_, (HG.out.drewN _).own (by simp; omega) _⟩, by simp [intOf]; omega⟩
          have := (HO.out.drew nq).set (j := k) (by omega) (x - c - y)
          rw [← HL.out, ext_set (by rw [HL.out]; omega)] at this
          rw [← HL.out]
          exact this
        · skip
          go_wp2_with fail
          go_quiet (fail)
          have e1 : bits .and .i64 (-(c : Int) + ((x : Int) - (y : Int))) 268435455 = ((x + LB - c - y : Nat) : Int) := by rw [and_low]; unfold LB; omega
          have e2 : (-(c : Int) + ((x : Int) - (y : Int))) / 268435456 = -1 := by omega
          have HN' : Hid (SubI (dig a) (dig b) (k + 1) (out ++ [x + LB - c - y]) 1) := HN2.out (by omega)
          go_wp2_with fail
          refine ⟨⟨k + 1, out ++ [x + LB - c - y], 1, by omega, by go_num, by first | rfl | simp | (rw [e2]; rfl), by omega, HN', (HSA.out.drew _).other _ (by first | (simp; done) | (simp; omega)) _, (HSB.out.drew _).other _ (by first | (simp; done) | (simp; omega)) _, (HR.out.drew _).other _ (by simp) _, ?_, (HG.out.drewN _).own (by simp; omega) _⟩, by simp [intOf]; omega⟩
          have := (HO.out.drew nq).set (j := k) (by omega) (x + LB - c - y)
          rw [← HL.out, ext_set (by rw [HL.out]; omega)] at this
          rw [← HL.out]
          exact this
      · obtain rfl : k = cnt a := by omega
        have c1 := HSA.out.cnt
        obtain ⟨HE1, HE2⟩ := sub_done HI.out hle ha
        have HE : Hid (cnt (a - b) ≤ cnt a) := HE2
        have HPS : Hid ((pad (a - b)).length = 80) := pad_len' HE2 (by omega)
        have HD : Hid (Sz wr (w.heap.size + 1 + 1 + 1) (pad (a - b)) 0) := by
          have := HO.out
          rw [HE1] at this
          exact this
        clear HE1 HE2 HI HO HSA HSB
        go_wp2_with (first | ((with_reducible refine load_sz HD.out ?_ ?_); exact rfl; simp only [Act.put, List.setIfInBounds_toArray, List.set_cons_succ, List.set_cons_zero]) | (go_at_call 30; refine (trimmed_pad (a - b) 0 (cnt a) _ HE.out (by omega)).mono ?_; rintro e w5 ⟨rfl, g5⟩; have HR5 : Hid (Sz w5 (w.heap.size + 1 + 1) (ext []) 0) := HR.out.old g5; have HG5 : Hid (Old w w5) := Old.trans HG.out g5) | ((with_reducible refine store_sz HR5.out (pad (a - b)) (cnt (a - b)) HPS.out ?_ ?_ ?_); exact rfl; exact rfl; simp only [Act.put]) | ((with_reducible refine bodyPost_ret (ret_sz Try.results28 _ _ ?_ (HR5.out.row (pad (a - b)) (cnt (a - b)) HPS.out)) ?_ ?_); exact rfl; exact rfl; exact ⟨rfl, HG5.out.row (by omega) _⟩))
end Go.Proofs.Ytpcpahgflkjnaaa
