/- Proved: the contract of the program's takeTimes: a divisor taken away often times at a place, in a size that lies in memory. -/
import Derived.Test.YtfgooclnohnkmaaGreatDoorSzAdd
namespace Go.Proofs.YtfgooclnohnkmaaGreatDoor
open Go.ChangeShapes Go.WideShapes Go.ChangeAt Go.RowKit
open M2
set_option linter.unusedVariables false
set_option linter.unusedSimpArgs false

/-- nothing that was there has turned, but for block q -/
structure But (q : Nat) (w w' : World) : Prop where
  os : w'.os = w.os
  tape : w'.tape = w.tape
  output : w'.output = w.output
  size : w.heap.size ≤ w'.heap.size
  block : ∀ k, k < w.heap.size → k ≠ q → w'.heap[k]? = w.heap[k]?
theorem But.of_old {q : Nat} {w w' : World} (h : Old w w') : But q w w' := ⟨h.os, h.tape, h.output, h.size, fun k hk _ => h.block k hk⟩
theorem But.trans {q : Nat} {a b c : World} (h : But q a b) (g : But q b c) : But q a c :=
  ⟨g.os.trans h.os, g.tape.trans h.tape, g.output.trans h.output, Nat.le_trans h.size g.size, fun k hk hne => (g.block k (Nat.lt_of_lt_of_le hk h.size) hne).trans (h.block k hk hne)⟩
theorem But.drew {q : Nat} {a b : World} (h : But q a b) (n : Nat) : But q a (b.drewN n) := ⟨h.os, h.tape, h.output, h.size, h.block⟩
theorem But.set {q : Nat} {a b : World} (h : But q a b) (j : Nat) (v : Value) : But q a (b.setCell ⟨q, j, none⟩ v) :=
  h.trans ⟨rfl, rfl, rfl, by simp, fun k hk hne => heap_setCell_other b _ k v hne⟩
theorem But.old {q : Nat} {w0 a b : World} (h : But q a b) (g : Old w0 a) (hq : w0.heap.size ≤ q) : Old w0 b :=
  ⟨h.os.trans g.os, h.tape.trans g.tape, h.output.trans g.output, Nat.le_trans g.size h.size, fun k hk => (h.block k (Nat.lt_of_lt_of_le hk g.size) (by omega)).trans (g.block k hk)⟩
theorem Sz.but {q : Nat} {a b : World} {g : Nat} {ls : List Nat} {c : Nat} (h : Sz a g ls c) (t : But q a b) (hg : g ≠ q) : Sz b g ls c := ⟨by rw [t.block g h.lt hg]; exact h.blk, h.len⟩
theorem lim_pad_getD (v i : Nat) : (dig v).getD i 0 < 268435456 := (dig_lim v).getD i
set_option maxHeartbeats 4000000 in
theorem take_sz (M v p q cc : Nat) (o T : Int) (w : World) (hs : Sz w q (pad M) cc) (hM : M < LB ^ (p + cnt v + 1)) (hp : p + cnt v ≤ 79) (ho1 : -1 ≤ o) (ho2 : o ≤ 268435457) (hT : T = (M : Int) - o * ((LB ^ p * v : Nat) : Int)) :
    Calls Tryz.prog 181 #[.pointer (some ⟨q, 0, none⟩), .agg (szV v), .int .i64 o, .int .i64 (p : Int)] w fun e w' => e = .returned (.bool (decide (0 ≤ T))) ∧ Sz w' q (pad (T % ((LB ^ (p + cnt v + 1) : Nat) : Int)).toNat) cc ∧ But q w w' := by
  have HS0 : Hid (Sz w q (pad M) cc) := hs
  have HM : Hid (M < LB ^ (p + cnt v + 1)) := hM
  have HTT : Hid (T = (M : Int) - o * ((LB ^ p * v : Nat) : Int)) := hT
  have hcM : cnt M ≤ 80 := by have := cnt_le hM; omega
  have hql := hs.lt
  have HLV := pad_len' (n := v) (k := 80) (by omega) (by omega)
  have a80 := szA_cnt HLV (cnt v)
  have HPV : Hid ((pad v).length = 80) := HLV
  clear hs hM hT HLV
  unfold szV
  go_enter Tryz.func181, Tryz.ntmps181
  go_wp2_with fail
  clear a80
  go_loopw [9, 14] (fun cy i W => ∃ (k : Nat) (cur : List Nat) (c : Int), k ≤ cnt v ∧ i = .int .i64 (k : Int) ∧ cy = .int .i64 c ∧ (-268435458 ≤ c ∧ c ≤ 1) ∧ Hid (TkI M (dig v) o p k cur c) ∧ Hid (Sz W w.heap.size (pad v) (cnt v)) ∧ Hid (Sz W q cur cc) ∧ Hid (But q w W)) (fun _ i _ => cnt v - (intOf i).toNat)
  case atStart => exact ⟨0, pad M, 0, by omega, rfl, rfl, by omega, TkI.start _ _ _ _ hcM, Sz.new w _ _ HPV.out, HS0.out.alloc _, But.of_old ((Old.refl w).alloc _)⟩
  case round =>
      obtain ⟨k, cur, c, hk, rfl, rfl, ⟨hc0, hc1⟩, HI, HSV, HSQ, HG⟩ := hrel
      by_cases hlt : k < cnt v
      · have i1 : (k : Int) < 80 := by omega
        have i2 : (p : Int) + (k : Int) < 80 := by omega
        have i3 : ((p : Int) + (k : Int)).toNat = p + k := by omega
        have c1 := HSV.out.at (j := k) (by omega)
        have c2 := HSQ.out.at (j := p + k) (by omega)
        have f1 := HSQ.out.fro (p + k)
        rw [pad_getD] at c1
        have l1 := lim_pad_getD v k
        have l2 := HI.out.lim.getD (p + k)
        have HN := HI.out.step (dig_lim v) ho1 ho2 (by omega)
        have HN' : Hid (TkI M (dig v) o p (k + 1) (cur.set (p + k) ((c + (cur.getD (p + k) 0 : Int) - o * ((dig v).getD k 0 : Int)) % 268435456).toNat) ((c + (cur.getD (p + k) 0 : Int) - o * ((dig v).getD k 0 : Int)) / 268435456)) := HN
        have hcl : -268435458 ≤ (c + (cur.getD (p + k) 0 : Int) - o * ((dig v).getD k 0 : Int)) / 268435456 := HN.lo
        have hch : (c + (cur.getD (p + k) 0 : Int) - o * ((dig v).getD k 0 : Int)) / 268435456 ≤ 1 := HN.hi
        clear HN
        generalize (dig v).getD k 0 = x at *
        generalize cur.getD (p + k) 0 = y at *
        have hy : y < 268435456 := l2
        clear l2
        have b0 : -268435456 ≤ o * (x : Int) := by
          have := Int.mul_le_mul_of_nonneg_right ho1 (Int.natCast_nonneg x)
          omega
        have b1 : o * (x : Int) ≤ 72057594306363393 := by
          have h1 := Int.mul_le_mul_of_nonneg_right ho2 (Int.natCast_nonneg x)
          have h2 : (268435457 : Int) * (x : Int) ≤ 268435457 * 268435455 := Int.mul_le_mul_of_nonneg_left (by omega) (by decide)
          omega
        have e1 : bits .and .i64 (c + ((y : Int) - o * (x : Int))) 268435455 = (((c + (y : Int) - o * (x : Int)) % 268435456).toNat : Int) := by
          rw [and_low, show c + ((y : Int) - o * (x : Int)) = c + (y : Int) - o * (x : Int) by omega]
          exact (Int.toNat_of_nonneg (Int.emod_nonneg _ (by decide))).symm
        have e2 : (c + ((y : Int) - o * (x : Int))) / 268435456 = (c + (y : Int) - o * (x : Int)) / 268435456 := by
          rw [show c + ((y : Int) - o * (x : Int)) = c + (y : Int) - o * (x : Int) by omega]
        generalize hu : ((c + (y : Int) - o * (x : Int)) % 268435456).toNat = u at *
        generalize hcc : (c + (y : Int) - o * (x : Int)) / 268435456 = c' at *
        clear hu hcc
        go_wp2_with fail
        go_quiet (fail)
        go_wp2_with fail
        exact ⟨⟨k + 1, cur.set (p + k) u, c', by omega, by go_num, by first | rfl | rw [e2], by omega, HN', (HSV.out.drew _).other _ (by show w.heap.size ≠ q; omega) _, (HSQ.out.drew _).set (by omega) u, (HG.out.drew _).set _ _⟩, by simp [intOf]; omega⟩
      · obtain rfl : k = cnt v := by omega
        have i2 : (p : Int) + ((cnt v : Nat) : Int) < 80 := by omega
        have i3 : ((p : Int) + ((cnt v : Nat) : Int)).toNat = p + cnt v := by omega
        have c1 := HSV.out.cnt
        have c2 := HSQ.out.at (j := p + cnt v) (by omega)
        have f1 := HSQ.out.fro (p + cnt v)
        have l2 := HI.out.lim.getD (p + cnt v)
        obtain ⟨HD1, HD2⟩ := HI.out.done (v := v) (by rw [take_cnt v _ (Nat.le_refl _), val_dig]) HM.out (by omega)
        rw [← HTT.out] at HD1 HD2
        have HQ := HSQ.out.set (j := p + cnt v) (by omega) ((c + (cur.getD (p + cnt v) 0 : Int)) % 268435456).toNat
        rw [HD2] at HQ
        have e1 : bits .and .i64 (c + (cur.getD (p + cnt v) 0 : Int)) 268435455 = (((c + (cur.getD (p + cnt v) 0 : Int)) % 268435456).toNat : Int) := by
          rw [and_low]
          exact (Int.toNat_of_nonneg (Int.emod_nonneg _ (by decide))).symm
        have HB : Hid (decide (0 ≤ c + (cur.getD (p + cnt v) 0 : Int)) = decide (0 ≤ T)) := decide_eq_decide.2 HD1
        generalize ((c + (cur.getD (p + cnt v) 0 : Int)) % 268435456).toNat = u at *
        generalize cur.getD (p + cnt v) 0 = y at *
        have hy : y < 268435456 := l2
        have HQ' : Hid (Sz (wr.setCell ⟨q, p + cnt v, none⟩ (.int .i64 (u : Int))) q (pad (T % ((LB ^ (p + cnt v + 1) : Nat) : Int)).toNat) cc) := HQ
        clear HD1 HD2 HQ l2
        go_wp2_with fail
        go_ret
        exact ⟨congrArg (fun z => Ending.returned (.bool z)) HB.out, HQ'.out, HG.out.set _ _⟩
end Go.Proofs.YtfgooclnohnkmaaGreatDoor
