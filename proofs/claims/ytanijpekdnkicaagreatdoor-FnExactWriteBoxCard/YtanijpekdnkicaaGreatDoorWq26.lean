/- Proved: several texts in one: what each proves is said ahead of it. -/
import Derived.Test.YtanijpekdnkicaaGreatDoorWq17
import Derived.Test.YtanijpekdnkicaaGreatDoorWq14
import Derived.Lib.AppendStr
import Derived.Test.YtanijpekdnkicaaGreatDoorWq24
import Derived.Test.YtanijpekdnkicaaGreatDoorWq23
import Derived.Deep.RegionHeld3
import Derived.Test.YtanijpekdnkicaaGreatDoorLawWriteBox
import Derived.Test.YtanijpekdnkicaaGreatDoorWq13
import Derived.Test.YtanijpekdnkicaaGreatDoorWq16
/- Proved: the contracts of the functions that write a head and a cipher as bytes. -/
namespace Go.Proofs.YtanijpekdnkicaaGreatDoor
open Go.ChangeShapes Go.WideShapes Go.ChangeAt Go.RowKit
set_option linter.unusedVariables false
set_option linter.unusedSimpArgs false
theorem row_bk {W : World} {g c : Nat} (xs : List Int) (h : Bk W g (xs.map (Value.int .i64)).toArray 3) : Row W (.slice (some ⟨g, 0, none⟩) xs.length c) xs := by
  by_cases h0 : xs.length = 0
  · exact Or.inl ⟨_, c, by rw [h0], List.length_eq_zero_iff.1 h0⟩
  · refine Or.inr ⟨g, 0, c, rfl, h.lt, by omega, fun j hj => ?_⟩
    rw [Nat.zero_add, cell_of_row _ _ _ _ _ _ h]
    simp [List.getD, hj]
def headB (kd N T E : Int) (ps : List Int) : List Int := [66, 70, 86, 49] ++ nbs 1 [kd, N, E, (ps.length : Int)] ++ nbs 3 [T] ++ nbs 4 ps
theorem headB_len (kd N T E : Int) (ps : List Int) : (headB kd N T E ps).length = 11 + 4 * ps.length := by
  simp only [headB, List.length_append, nbs_len, List.length_cons, List.length_nil]
set_option maxRecDepth 100000 in
set_option maxHeartbeats 4000000 in
theorem impl_withHead (base : Nat) (kd N T E : Int) (ps bs : List Int) (a0 : Option Addr) (c0 : Nat) (v : Value) (w w1 : World) (ho : BO w base v bs) (hb : base ≤ w.heap.size) (hv : Row w1 (.slice a0 ps.length c0) ps) (g1 : Old w1 w) (hb1 : w1.heap.size ≤ base) (hps : ps.length ≤ 6) (hlb : bs.length ≤ 1000) :
    Calls Tryz.prog 68 #[v, .int .i64 kd, .agg #[.int .i64 N, .int .i64 T, .int .i64 E, .slice a0 ps.length c0]] w (BA base (bs ++ headB kd N T E ps) w) := by
  obtain ⟨i0, hi, hz0, hz1, hz2⟩ := info_parts Tryz.infoU8
  have HV := hidP0 hv
  have HG0 := hidP0 g1
  have HO : Hid (BO (w.alloc (.cells #[.int .i64 N, .int .i64 T, .int .i64 E, .slice a0 ps.length c0] 35)) base v bs) := ho.old ((Old.refl w).alloc _)
  have BP : Hid (Bk (w.alloc (.cells #[.int .i64 N, .int .i64 T, .int .i64 E, .slice a0 ps.length c0] 35)) w.heap.size #[.int .i64 N, .int .i64 T, .int .i64 E, .slice a0 ps.length c0] 35) := Bk.new' w _ _ rfl
  have R0 : Hid (Rg base w (w.alloc (.cells #[.int .i64 N, .int .i64 T, .int .i64 E, .slice a0 ps.length c0] 35))) := (Rg.refl _ _).alloc hb _
  obtain ⟨va, vc, rfl⟩ := ho.slice
  have hsz : base ≤ (w.alloc (.cells #[.int .i64 N, .int .i64 T, .int .i64 E, .slice a0 ps.length c0] 35)).heap.size := Nat.le_trans hb R0.out.size
  obtain ⟨kp, hkp⟩ : ∃ k, w.heap.size = k := ⟨_, rfl⟩
  rw [hkp] at BP
  obtain ⟨wA, hwA⟩ : ∃ z, w.alloc (.cells #[.int .i64 N, .int .i64 T, .int .i64 E, .slice a0 ps.length c0] 35) = z := ⟨_, rfl⟩
  rw [hwA] at HO BP R0 hsz
  clear ho hv g1
  go_enter Tryz.func68, Tryz.ntmps68
  go_wp2_with (at_builtin; refine Lib.wpList_append_own_string _ rfl _ _ 54 9 rfl base 5 i0 Tryz.underlying54 Tryz.underlying9 hi hz0 hz1 hz2 _ _ _ rfl HO.out _ rfl (by show _ + 4 ≤ _; unfold maxLen; omega) (by show _ + 4 ≤ _; omega) hsz ?_; intro v5 w5 o5 g5 x5; have HO5 : Hid (BO w5 base v5 (bs ++ [66, 70, 86, 49])) := (by unfold Hid BO; rw [List.length_append, List.map_append]; exact o5); have R5 : Hid (Rg base w w5) := R0.out.trans (BO.rg HO.out g5 hsz); have B5 : Hid (Bk w5 kp #[.int .i64 N, .int .i64 T, .int .i64 E, .slice a0 ps.length c0] 35) := (BO.rg HO.out g5 hsz).bk BP.out (by decide); have z0 := B5.out.c (i := 0) rfl; have z2 := B5.out.c (i := 2) rfl; have z3 := B5.out.c (i := 3) rfl; clear o5 g5 x5)
  clear hwA hkp HO BP R0 hsz
  have hl5 : (bs ++ [66, 70, 86, 49]).length ≤ 1004 := by simp; omega
  have BL : Hid (Bk (w5.alloc (.cells #[.int .i64 kd, .int .i64 N, .int .i64 E, .int .i64 (ps.length : Int)] 3)) w5.heap.size #[.int .i64 kd, .int .i64 N, .int .i64 E, .int .i64 (ps.length : Int)] 3) := Bk.new' w5 _ _ rfl
  have R6 : Hid (Rg base w (w5.alloc (.cells #[.int .i64 kd, .int .i64 N, .int .i64 E, .int .i64 (ps.length : Int)] 3))) := R5.out.alloc (Nat.le_trans hb R5.out.size) _
  have B6 := hidP0 (B5.out.old ((Old.refl w5).alloc (.cells #[.int .i64 kd, .int .i64 N, .int .i64 E, .int .i64 (ps.length : Int)] 3)))
  have K6 := hidP0 (impl_withNumbers base 1 [kd, N, E, (ps.length : Int)] (bs ++ [66, 70, 86, 49]) _ (.slice (some ⟨w5.heap.size, 0, none⟩) 4 4) _ (HO5.out.old ((Old.refl w5).alloc (.cells #[.int .i64 kd, .int .i64 N, .int .i64 E, .int .i64 (ps.length : Int)] 3))) (Nat.le_trans hb R6.out.size) (fun W r => row_bk [kd, N, E, (ps.length : Int)] (r.bk BL.out (by decide))) (by omega) (by show _ + 4 * 4 ≤ _; omega))
  obtain ⟨b5, hb5⟩ : ∃ z, bs ++ [66, 70, 86, 49] = z := ⟨_, rfl⟩
  rw [hb5] at K6
  clear HO5 BL B5 R5
  refine K6.out.mono ?_
  rintro e w7 ⟨v7, rfl, o7, r7⟩
  have HO7 := hidP0 o7
  have R7 := hidP0 (R6.out.trans r7)
  have B7 := hidP0 (r7.bk B6.out (by decide))
  clear o7 r7 R6 B6 K6 z0 z2 z3
  obtain ⟨a7, c7, rfl⟩ := HO7.out.slice
  have hl7 : (b5 ++ nbs 1 [kd, N, E, (ps.length : Int)]).length ≤ 1008 := by
    rw [List.length_append, nbs_len, ← hb5]
    show _ + 1 * 4 ≤ _
    omega
  have y1 := B7.out.c (i := 1) rfl
  have BL : Hid (Bk (w7.alloc (.cells #[.int .i64 T] 3)) w7.heap.size #[.int .i64 T] 3) := Bk.new' w7 _ _ rfl
  have R8 : Hid (Rg base w (w7.alloc (.cells #[.int .i64 T] 3))) := R7.out.alloc (Nat.le_trans hb R7.out.size) _
  have B8 := hidP0 (B7.out.old ((Old.refl w7).alloc (.cells #[.int .i64 T] 3)))
  have K8 := hidP0 (impl_withNumbers base 3 [T] (b5 ++ nbs 1 [kd, N, E, (ps.length : Int)]) _ (.slice (some ⟨w7.heap.size, 0, none⟩) 1 1) _ (HO7.out.old ((Old.refl w7).alloc (.cells #[.int .i64 T] 3))) (Nat.le_trans hb R8.out.size) (fun W r => row_bk [T] (r.bk BL.out (by decide))) (by omega) (by show _ + 4 * 1 ≤ _; omega))
  obtain ⟨b7, hb7⟩ : ∃ z, b5 ++ nbs 1 [kd, N, E, (ps.length : Int)] = z := ⟨_, rfl⟩
  rw [hb7] at K8 hl7
  rw [hb7]
  clear HO7 BL B7 R7
  go_wp2_with fail
  refine K8.out.mono ?_
  rintro e w9 ⟨v9, rfl, o9, r9⟩
  have HO9 := hidP0 o9
  have R9 := hidP0 (R8.out.trans r9)
  have B9 := hidP0 (r9.bk B8.out (by decide))
  clear o9 r9 R8 B8 K8 y1
  obtain ⟨a9, c9, rfl⟩ := HO9.out.slice
  have hl9 : (b7 ++ nbs 3 [T]).length ≤ 1011 := by
    rw [List.length_append, nbs_len]
    show _ + 3 * 1 ≤ _
    omega
  have x3 := B9.out.c (i := 3) rfl
  have K9 := hidP0 (impl_withNumbers base 4 ps (b7 ++ nbs 3 [T]) _ (.slice a0 ps.length c0) w9 HO9.out (Nat.le_trans hb R9.out.size) (fun W r => HV.out.old ((R9.out.trans r).old HG0.out hb1)) (by omega) (by omega))
  have eq : Hid (b7 ++ nbs 3 [T] ++ nbs 4 ps = bs ++ headB kd N T E ps) := by
    show _ = _
    rw [← hb7, ← hb5]
    simp only [headB, List.append_assoc]
  obtain ⟨b9, hb9⟩ : ∃ z, b7 ++ nbs 3 [T] = z := ⟨_, rfl⟩
  rw [hb9] at K9 eq
  rw [hb9]
  clear HO9 B9 hb5 hb7 hb9 hl9 hl7 hl5
  go_wp2_with fail
  refine K9.out.mono ?_
  rintro e w10 ⟨v10, rfl, o10, r10⟩
  have HO10 := hidP0 o10
  have R10 := hidP0 (R9.out.trans r10)
  clear o10 r10 K9 x3
  go_wp2_with fail
  go_ret
  rw [← eq.out]
  exact ⟨_, rfl, HO10.out, R10.out⟩
def cipB (xsss : List (List (List Int))) (ls : List Int) : List Int := nbs 1 [(xsss.length : Int)] ++ (xsss.map rwsB).flatten ++ nbs 1 [(ls.length : Int)] ++ nbs 4 ls
theorem mapf_succ {α : Type} (f : α → List Int) (d : α) (xs : List α) (k : Nat) (h : k < xs.length) : ((xs.take (k + 1)).map f).flatten = ((xs.take k).map f).flatten ++ f (xs.getD k d) := by
  have e : xs.take (k + 1) = xs.take k ++ [xs.getD k d] := by
    rw [List.take_add_one]
    simp [List.getD, h]
  rw [e]
  simp
theorem mapf_le {α : Type} (f : α → List Int) (m : Nat) (xs : List α) (h : ∀ r ∈ xs, (f r).length ≤ m) : ∀ k, ((xs.take k).map f).flatten.length ≤ m * k
  | 0 => by simp
  | k + 1 => by
    have h1 := mapf_le f m xs h k
    by_cases hk : k < xs.length
    · have h2 : (f (xs[k])).length ≤ m := h _ (List.getElem_mem hk)
      rw [mapf_succ f (xs[k]) xs k hk, List.length_append, show xs.getD k (xs[k]) = xs[k] by simp [List.getD, hk], Nat.mul_succ]
      omega
    · rw [List.take_of_length_le (by omega)] at h1 ⊢
      rw [Nat.mul_succ]
      omega
theorem rwsB_le (xss : List (List Int)) (hl : xss.length ≤ 6) (hr : ∀ r ∈ xss, 1 ≤ r.length ∧ r.length ≤ 16) : (rwsB xss).length ≤ 384 := by
  have h := flat_le xss (fun r h => (hr r h).2) xss.length
  rw [List.take_length] at h
  unfold rwsB
  rw [nbs_len]
  omega
set_option maxRecDepth 100000 in
set_option maxHeartbeats 4000000 in
theorem impl_withCipher (base : Nat) (xsss : List (List (List Int))) (sg : Bool) (ls bs : List Int) (al : Option Addr) (cl : Nat) (v u : Value) (w w1 : World) (ho : BO w base v bs) (hb : base ≤ w.heap.size) (hu : RowT w1 u xsss) (hv : Row w1 (.slice al ls.length cl) ls) (g1 : Old w1 w) (hb1 : w1.heap.size ≤ base) (hx : xsss.length ≤ 3) (hr : ∀ r ∈ xsss, r.length ≤ 6 ∧ ∀ q ∈ r, 1 ≤ q.length ∧ q.length ≤ 16) (hll : ls.length ≤ 1000) (hlb : bs.length ≤ 10000) :
    Calls Tryz.prog 70 #[v, .agg #[u], .agg #[.bool sg, .slice al ls.length cl]] w (BA base (bs ++ cipB xsss ls) w) := by
  have HV := hidP0 hv
  have HG0 := hidP0 g1
  have HLE : Hid (∀ k, (((xsss.take k).map rwsB).flatten).length ≤ 384 * k) := fun k => mapf_le rwsB 384 xsss (fun r h => rwsB_le r (hr r h).1 (hr r h).2) k
  obtain ⟨fl, hfl⟩ : ∃ f : Nat → List Int, ∀ k, f k = ((xsss.take k).map rwsB).flatten := ⟨_, fun _ => rfl⟩
  have HF0 : Hid (fl 0 = []) := by show _ = _; rw [hfl]; rfl
  have HFS : Hid (∀ k, k < xsss.length → fl (k + 1) = fl k ++ rwsB (xsss.getD k [])) := fun k hk => by rw [hfl, hfl]; exact mapf_succ rwsB [] xsss k hk
  have HFL : Hid (∀ k, (fl k).length ≤ 384 * k) := fun k => by rw [hfl]; exact HLE.out k
  have HFE : Hid (fl xsss.length = (xsss.map rwsB).flatten) := by show _ = _; rw [hfl, List.take_length]
  have HRL : Hid (∀ k, k < xsss.length → (xsss.getD k []).length ≤ 6 ∧ ∀ q ∈ xsss.getD k [], 1 ≤ q.length ∧ q.length ≤ 16) := fun k hk => hr _ (by simp [List.getD, hk])
  obtain ⟨ua, uc, rfl⟩ := hu.slice
  have HC : Hid (∀ k, k < xsss.length → ∃ b o uk, ua = some ⟨b, o, none⟩ ∧ b < w1.heap.size ∧ w1.cell? ⟨b, o + k, none⟩ = some uk ∧ RowS w1 uk (xsss.getD k [])) := fun k hk => by
    rcases hu with ⟨_, _, _, e'⟩ | ⟨b, o, cap, us, e, hbb, h0, hc⟩
    · subst e'
      simp at hk
    · obtain ⟨rfl, _⟩ : ua = some ⟨b, o, none⟩ ∧ uc = cap := by simpa using e
      exact ⟨b, o, us k, rfl, hbb, (hc k hk).1, (hc k hk).2⟩
  obtain ⟨va, vc, rfl⟩ := ho.slice
  obtain ⟨wA, hwA⟩ : ∃ z, (w.alloc (.cells #[.slice ua xsss.length uc] 32)).alloc (.cells #[.bool sg, .slice al ls.length cl] 57) = z := ⟨_, rfl⟩
  have OA : Old w wA := by rw [← hwA]; exact ((Old.refl w).alloc _).alloc _
  have HO : Hid (BO wA base (.slice va bs.length vc) bs) := ho.old OA
  have BC : Hid (Bk wA w.heap.size #[.slice ua xsss.length uc] 32) := by rw [← hwA]; exact (Bk.new' w _ _ rfl).alloc _
  have BW : Hid (Bk wA (w.heap.size + 1) #[.bool sg, .slice al ls.length cl] 57) := by rw [← hwA]; exact Bk.new' _ _ _ (by simp)
  have RA : Hid (Rg base w wA) := Rg.of_old OA hb
  obtain ⟨kp, hkp⟩ : ∃ k, w.heap.size = k := ⟨_, rfl⟩
  rw [hkp] at BC BW
  have z0 := BC.out.c (i := 0) rfl
  clear ho hv hu hr g1 OA hfl HLE
  go_enter Tryz.func70, Tryz.ntmps70
  have BL : Hid (Bk (wA.alloc (.cells #[.int .i64 (xsss.length : Int)] 3)) wA.heap.size #[.int .i64 (xsss.length : Int)] 3) := Bk.new' wA _ _ rfl
  have R6 : Hid (Rg base w (wA.alloc (.cells #[.int .i64 (xsss.length : Int)] 3))) := RA.out.alloc (Nat.le_trans hb RA.out.size) _
  have K6 := hidP0 (impl_withNumbers base 1 [(xsss.length : Int)] bs _ (.slice (some ⟨wA.heap.size, 0, none⟩) 1 1) _ (HO.out.old ((Old.refl wA).alloc (.cells #[.int .i64 (xsss.length : Int)] 3))) (Nat.le_trans hb R6.out.size) (fun W r => row_bk [(xsss.length : Int)] (r.bk BL.out (by decide))) (by omega) (by show _ + 4 * 1 ≤ _; omega))
  have BC6 := hidP0 (BC.out.old ((Old.refl wA).alloc (.cells #[.int .i64 (xsss.length : Int)] 3)))
  have BW6 := hidP0 (BW.out.old ((Old.refl wA).alloc (.cells #[.int .i64 (xsss.length : Int)] 3)))
  clear BL RA HO BC BW
  go_wp2_with fail
  refine K6.out.mono ?_
  rintro e w7 ⟨v7, rfl, o7, r7⟩
  have R7 := hidP0 (R6.out.trans r7)
  have BC7 := hidP0 (r7.bk BC6.out (by decide))
  have BW7 := hidP0 (r7.bk BW6.out (by decide))
  obtain ⟨b7, hb7⟩ : ∃ z, bs ++ nbs 1 [(xsss.length : Int)] = z := ⟨_, rfl⟩
  have hl7 : b7.length ≤ 10001 := by
    rw [← hb7, List.length_append, nbs_len]
    show _ + 1 * 1 ≤ _
    omega
  rw [hb7] at o7
  have HO7 : Hid (BO w7 base v7 (b7 ++ fl 0)) := by rw [HF0.out, List.append_nil]; exact o7
  have HB7 := hidP0 hb7
  clear o7 r7 K6 R6 BC6 BW6 hb7 hwA z0
  have y0 := BC7.out.c (i := 0) rfl
  go_wp2_with fail
  go_loopw [0, 8, 18] (fun t _ i W => ∃ k : Nat, k ≤ xsss.length ∧ i = .int .i64 k ∧ Hid (BO W base t (b7 ++ fl k)) ∧ Hid (Rg base w W) ∧ Hid (Bk W (kp + 1) #[.bool sg, .slice al ls.length cl] 57)) (fun _ _ i _ => xsss.length - (intOf i).toNat)
  case atStart => exact ⟨0, by omega, rfl, HO7, R7, BW7⟩
  case round =>
    clear HO7 R7 BW7 BC7 y0
    obtain ⟨k, hk, rfl, HO, HG, BW⟩ := hrel
    obtain ⟨ta, tc, rfl⟩ := HO.out.slice
    have hlk : (b7 ++ fl k).length ≤ 20000 := by
      have := HFL.out k
      rw [List.length_append]
      omega
    by_cases hlt : k < xsss.length
    · have d1 : decide ((k : Int) < (xsss.length : Int)) = true := by simp; omega
      have ilt : (k : Int) < (xsss.length : Int) := by omega
      obtain ⟨b, o, uk, rfl, hbb, hc, hS⟩ := HC.out k hlt
      have G0 := HG.out.old HG0.out hb1
      have c0 := (G0.cell (p := ⟨b, o + k, none⟩) hbb).trans hc
      have hL := HRL.out k hlt
      have hsu := HFS.out k hlt
      have KR := hidP0 (impl_withRows base (xsss.getD k []) (b7 ++ fl k) _ uk wr w1 HO.out (Nat.le_trans hb HG.out.size) hS G0 hL.1 hL.2 (by omega))
      rw [List.append_assoc, ← hsu] at KR
      obtain ⟨xa, xc, rfl⟩ := hS.slice
      obtain ⟨ds, hds⟩ : ∃ z, b7 ++ fl k = z := ⟨_, rfl⟩
      rw [hds] at KR
      rw [hds]
      generalize (xsss.getD k []).length = m at *
      clear hc hS G0 hL hsu hds hlk HO
      go_wp2_with fail
      refine KR.out.mono ?_
      rintro e w3 ⟨v3, rfl, o3, r3⟩
      have HO3 := hidP0 o3
      have R3 := hidP0 (HG.out.trans r3)
      have BW3 := hidP0 (r3.bk BW.out (by decide))
      clear o3 r3 KR BW HG
      go_wp2_with fail
      exact ⟨⟨k + 1, by omega, by go_num, HO3, R3, BW3⟩, by simp [intOf]; omega⟩
    · have d1 : decide ((k : Int) < (xsss.length : Int)) = false := by simp; omega
      obtain rfl : k = xsss.length := by omega
      have y1 := BW.out.c (i := 1) rfl
      have BL : Hid (Bk (wr.alloc (.cells #[.int .i64 (ls.length : Int)] 3)) wr.heap.size #[.int .i64 (ls.length : Int)] 3) := Bk.new' wr _ _ rfl
      have R8 : Hid (Rg base w (wr.alloc (.cells #[.int .i64 (ls.length : Int)] 3))) := HG.out.alloc (Nat.le_trans hb HG.out.size) _
      have B8 := hidP0 (BW.out.old ((Old.refl wr).alloc (.cells #[.int .i64 (ls.length : Int)] 3)))
      have K8 := hidP0 (impl_withNumbers base 1 [(ls.length : Int)] _ _ (.slice (some ⟨wr.heap.size, 0, none⟩) 1 1) _ (HO.out.old ((Old.refl wr).alloc (.cells #[.int .i64 (ls.length : Int)] 3))) (Nat.le_trans hb R8.out.size) (fun W r => row_bk [(ls.length : Int)] (r.bk BL.out (by decide))) (by omega) (by show _ + 4 * 1 ≤ _; omega))
      obtain ⟨ds, hds⟩ : ∃ z, b7 ++ fl xsss.length = z := ⟨_, rfl⟩
      rw [hds] at K8 hlk
      rw [hds]
      have HDS := hidP0 hds
      clear BL BW HG HO hds
      go_wp2_with fail
      refine K8.out.mono ?_
      rintro e w9 ⟨v9, rfl, o9, r9⟩
      have R9 := hidP0 (R8.out.trans r9)
      have B9 := hidP0 (r9.bk B8.out (by decide))
      have hl9 : (ds ++ nbs 1 [(ls.length : Int)]).length ≤ 20001 := by
        rw [List.length_append, nbs_len]
        show _ + 1 * 1 ≤ _
        omega
      have K9 := hidP0 (impl_withNumbers base 4 ls _ _ (.slice al ls.length cl) w9 o9 (Nat.le_trans hb R9.out.size) (fun W r => HV.out.old ((R9.out.trans r).old HG0.out hb1)) (by omega) (by omega))
      obtain ⟨a9, c9, rfl⟩ := BO.slice o9
      have eq : Hid (ds ++ nbs 1 [(ls.length : Int)] ++ nbs 4 ls = bs ++ cipB xsss ls) := by
        show _ = _
        rw [← HDS.out, ← HB7.out, HFE.out]
        simp only [cipB, List.append_assoc]
      obtain ⟨d9, hd9⟩ : ∃ z, ds ++ nbs 1 [(ls.length : Int)] = z := ⟨_, rfl⟩
      rw [hd9] at K9 eq
      rw [hd9]
      have x1 := B9.out.c (i := 1) rfl
      clear o9 r9 K8 R8 B8 y1 hl9 hd9 B9
      go_wp2_with fail
      refine K9.out.mono ?_
      rintro e w10 ⟨v10, rfl, o10, r10⟩
      have HO10 := hidP0 o10
      have R10 := hidP0 (R9.out.trans r10)
      clear o10 r10 K9 x1
      go_wp2_with fail
      go_ret
      rw [← eq.out]
      exact ⟨_, rfl, HO10.out, R10.out⟩
end Go.Proofs.YtanijpekdnkicaaGreatDoor
/- Proved: the bytes of a box, and the contract of the program's WriteBox. -/
namespace Go.Proofs.YtanijpekdnkicaaGreatDoor
open Go.ChangeShapes Go.WideShapes Go.ChangeAt Go.RowKit
set_option linter.unusedVariables false
set_option linter.unusedSimpArgs false
def prwB (r : PrV) : List Int := rwsB r.1 ++ rwsB r.2
def midB (kd : Int) (pl : List Int) (xs3 : List (List (List Int))) (ls : List Int) : List Int := if kd = 2 then nbs 3 pl else if kd = 4 then nbs 1 pl else if kd = 3 then cipB xs3 ls else []
def boxB (kd N T E : Int) (ps pl : List Int) (xs3 : List (List (List Int))) (ls : List Int) (kss : List PrV) : List Int := headB kd N T E ps ++ midB kd pl xs3 ls ++ (kss.map prwB).flatten
def RwOk (r : List (List Int)) : Prop := r.length ≤ 6 ∧ ∀ q ∈ r, 1 ≤ q.length ∧ q.length ≤ 16
theorem rw_ok {N : Int} {ps : List Int} {r : List (List Int)} (h : rwB N ps r = true) (hps : ps.length ≤ 6) (hN : 2 ≤ N ∧ N ≤ 16) : RwOk r := by
  obtain ⟨h1, h2⟩ := rw_parts h
  refine ⟨by omega, fun q hq => ?_⟩
  obtain ⟨k, hk, rfl⟩ := List.mem_iff_getElem.mp hq
  have h3 := h2 k (by omega)
  rw [show r.getD k [] = r[k] by simp [List.getD, hk]] at h3
  unfold polyB at h3
  rw [Bool.and_eq_true, decide_eq_true_eq] at h3
  omega
structure BxOk (kd : Int) (ps pl : List Int) (xs3 : List (List (List Int))) (ls : List Int) (kss : List PrV) : Prop where
  ps : 1 ≤ ps.length ∧ ps.length ≤ 6
  pl : kd = 2 ∨ kd = 4 → pl.length ≤ 16
  xl : kd = 3 → xs3.length ≤ 3
  xr : kd = 3 → ∀ r ∈ xs3, RwOk r
  ls : kd = 3 → ls.length ≤ 40
  kl : kss.length ≤ 6
  kr : ∀ r ∈ kss, RwOk r.1 ∧ RwOk r.2
  ko : kd ≠ 5 → kd ≠ 6 → kss = []
theorem bx_ok (kd N T E : Int) (ps pl : List Int) (xs3 : List (List (List Int))) (sg : Bool) (ls : List Int) (kss : List PrV) (h : bxB kd N T E ps pl xs3 sg ls kss = true) : BxOk kd ps pl xs3 ls kss := by
  unfold bxB at h
  simp only [Bool.and_eq_true, decide_eq_true_eq] at h
  obtain ⟨h1, h2, h3, h4, h5⟩ := h
  have hsp := prB_sp h2
  obtain ⟨hz, hb, _⟩ := sp_ring hsp
  have hps := (bas_at hb).1
  have hN : 2 ≤ N ∧ N ≤ 16 := by omega
  unfold kpB at h4
  rw [Bool.and_eq_true, decide_eq_true_eq] at h4
  obtain ⟨h4, h6⟩ := h4
  have hkl : kss.length ≤ 6 := by
    rw [h4]
    unfold kcN
    split
    · omega
    · split <;> omega
  refine ⟨hps, fun hk => ?_, fun hk => ?_, fun hk => ?_, fun hk => ?_, hkl, fun r hr => ?_, fun k5 k6 => ?_⟩
  · unfold plB at h5
    rcases hk with rfl | rfl
    · simp only [if_true] at h5
      unfold polyB at h5
      rw [Bool.and_eq_true, decide_eq_true_eq] at h5
      omega
    · rw [if_neg (by decide), if_pos rfl] at h5
      unfold wiB at h5
      rw [Bool.and_eq_true, decide_eq_true_eq] at h5
      omega
  · unfold ccB at h3
    rw [if_pos hk, Bool.and_eq_true] at h3
    exact (rd_true h3.1).1.2
  · unfold ccB at h3
    rw [if_pos hk, Bool.and_eq_true] at h3
    intro r hr
    obtain ⟨k, hk2, rfl⟩ := List.mem_iff_getElem.mp hr
    have := (rd_true h3.1).2 k hk2
    simp only [List.getD, List.getElem?_eq_getElem hk2, Option.getD_some] at this
    exact rw_ok this (by omega) hN
  · unfold ccB at h3
    rw [if_pos hk, Bool.and_eq_true] at h3
    have h7 := h3.2
    unfold bdB at h7
    rw [Bool.and_eq_true, decide_eq_true_eq] at h7
    exact h7.1.1
  · have := List.all_eq_true.1 h6 r hr
    unfold prG at this
    rw [Bool.and_eq_true] at this
    exact ⟨rw_ok this.1 (by omega) hN, rw_ok this.2 (by omega) hN⟩
  · have : kss.length = 0 := by rw [h4]; unfold kcN; rw [if_neg k5, if_neg k6]
    exact List.length_eq_zero_iff.1 this
theorem prwB_le {r : PrV} (h : RwOk r.1 ∧ RwOk r.2) : (prwB r).length ≤ 768 := by
  have h1 := rwsB_le r.1 h.1.1 h.1.2
  have h2 := rwsB_le r.2 h.2.1 h.2.2
  unfold prwB
  rw [List.length_append]
  omega
theorem cipB_le {xs3 : List (List (List Int))} {ls : List Int} (hl : xs3.length ≤ 3) (hr : ∀ r ∈ xs3, RwOk r) (hls : ls.length ≤ 40) : (cipB xs3 ls).length ≤ 1314 := by
  have h := mapf_le rwsB 384 xs3 (fun r h => rwsB_le r (hr r h).1 (hr r h).2) xs3.length
  rw [List.take_length] at h
  unfold cipB
  simp only [List.length_append, nbs_len, List.length_cons, List.length_nil]
  omega
theorem midB_le (kd N T E : Int) (ps pl : List Int) (xs3 : List (List (List Int))) (sg : Bool) (ls : List Int) (kss : List PrV) (h : BxOk kd ps pl xs3 ls kss) : (midB kd pl xs3 ls).length ≤ 1314 := by
  unfold midB
  split
  · rename_i hk
    have := h.pl (.inl hk)
    rw [nbs_len]
    omega
  · split
    · rename_i hk
      have := h.pl (.inr hk)
      rw [nbs_len]
      omega
    · split
      · rename_i hk
        exact cipB_le (h.xl hk) (h.xr hk) (h.ls hk)
      · simp
theorem boxB_le (kd N T E : Int) (ps pl : List Int) (xs3 : List (List (List Int))) (sg : Bool) (ls : List Int) (kss : List PrV) (h : BxOk kd ps pl xs3 ls kss) : (boxB kd N T E ps pl xs3 ls kss).length ≤ 6000 := by
  have h1 := midB_le kd N T E ps pl xs3 sg ls kss h
  have h2 := mapf_le prwB 768 kss (fun r hr => prwB_le (h.kr r hr)) kss.length
  rw [List.take_length] at h2
  have h3 := h.ps
  have h4 := h.kl
  have h5 := headB_len kd N T E ps
  unfold boxB
  rw [List.length_append, List.length_append]
  omega
def BYA (Z : List Int) (ok : Bool) (w : World) (e : Ending) (w' : World) : Prop := ∃ v', e = .returned (.tuple #[v', .bool ok]) ∧ Old w w' ∧ BO w' w.heap.size v' Z
set_option maxRecDepth 100000 in
set_option maxHeartbeats 8000000 in
theorem impl_WriteBox (kd N T E : Int) (ps pl : List Int) (xs3 : List (List (List Int))) (sg : Bool) (ls : List Int) (kss : List PrV) (lo hi : Nat) (gv : Array Value) (w : World) (hP : PrsW w) (hT : TabW w) (hv : XBx kd N T E ps pl xs3 sg ls kss w lo hi gv) (hhi : hi ≤ w.heap.size) (hl : BoxLe 1048576 ps pl xs3 ls kss) (Z : List Int) (ok : Bool) (hy : bxB kd N T E ps pl xs3 sg ls kss = true → Z = boxB kd N T E ps pl xs3 ls kss ∧ ok = true) (hn : bxB kd N T E ps pl xs3 sg ls kss = false → Z = [] ∧ ok = false) :
    Calls Tryz.prog 26 #[.agg gv] w (BYA Z ok w) := by
  have HW := hv.boxW
  obtain ⟨a0, ac0, a1, ac1, a2, ac2, a3, ac3, a4, ac4, e, r0, r1, r2, r3, r4⟩ := HW
  simp only [Value.agg.injEq] at e
  subst e
  obtain ⟨W1, hW1⟩ : ∃ z, w.alloc (.cells #[.int .i64 kd, .int .i64 N, .int .i64 T, .int .i64 E, .slice a0 ps.length ac0, .slice a1 pl.length ac1, .slice a2 xs3.length ac2, .bool sg, .slice a3 ls.length ac3, .slice a4 kss.length ac4] 59) = z := ⟨_, rfl⟩
  have HW1 : Hid (Old w W1) := by rw [← hW1]; exact (Old.refl w).alloc _
  have BX : Hid (Bk W1 w.heap.size #[.int .i64 kd, .int .i64 N, .int .i64 T, .int .i64 E, .slice a0 ps.length ac0, .slice a1 pl.length ac1, .slice a2 xs3.length ac2, .bool sg, .slice a3 ls.length ac3, .slice a4 kss.length ac4] 59) := by rw [← hW1]; exact Bk.new' w _ _ rfl
  have hb1 : w.heap.size ≤ W1.heap.size := HW1.out.size
  have KG := hidP0 (impl_GoodBox kd N T E ps pl xs3 sg ls kss lo hi _ W1 (hP.old HW1.out) (hT.old HW1.out) ((far_XBx kd N T E ps pl xs3 sg ls kss).old hv HW1.out hhi) hl)
  have R0 := hidP0 (r0.old HW1.out)
  have R1 := hidP0 (r1.old HW1.out)
  have R2 := hidP0 (r2.old HW1.out)
  have R3 := hidP0 (r3.old HW1.out)
  have R4' := r4.old HW1.out
  have HC : Hid (∀ k, k < kss.length → ∃ b o ua va, a4 = some ⟨b, o, none⟩ ∧ b < W1.heap.size ∧ W1.cell? ⟨b, o + k * 2, none⟩ = some ua ∧ W1.cell? ⟨b, o + k * 2 + 1, none⟩ = some va ∧ RowS W1 ua (pk kss k).1 ∧ RowS W1 va (pk kss k).2) := fun k hk => by
    rcases R4' with ⟨_, _, _, e'⟩ | ⟨b, o, cap, us, vs, e, hbb, h0, hc⟩
    · subst e'
      simp at hk
    · obtain ⟨rfl, _⟩ : a4 = some ⟨b, o, none⟩ ∧ ac4 = cap := by simpa using e
      obtain ⟨q1, q2, q3, q4⟩ := hc k hk
      exact ⟨b, o, us k, vs k, rfl, hbb, q1, q2, q3, q4⟩
  have HY := hidP0 hy
  have HN := hidP0 hn
  obtain ⟨kp, hkp⟩ : ∃ k, w.heap.size = k := ⟨_, rfl⟩
  have HKP := hidP0 hkp
  rw [hkp] at BX
  have x0 := BX.out.c (i := 0) rfl
  have x1 := BX.out.c (i := 1) rfl
  have x2 := BX.out.c (i := 2) rfl
  have x3 := BX.out.c (i := 3) rfl
  have x4 := BX.out.c (i := 4) rfl
  have x5 := BX.out.c (i := 5) rfl
  have x6 := BX.out.c (i := 6) rfl
  have x7 := BX.out.c (i := 7) rfl
  have x8 := BX.out.c (i := 8) rfl
  have x9 := BX.out.c (i := 9) rfl
  clear hy hn hv hl hP hT r0 r1 r2 r3 r4 R4' hhi
  go_enter Tryz.func26, Tryz.ntmps26
  go_wp2_with fail
  refine KG.out.mono ?_
  rintro e w2 ⟨rfl, g2⟩
  have HG2 := hidP0 g2
  have B2 := hidP0 (BX.out.old g2)
  clear g2 KG x0 x1 x2 x3 x4 x5 x6 x7 x8 x9 hW1 hkp
  cases hb : bxB kd N T E ps pl xs3 sg ls kss
  · obtain ⟨rfl, rfl⟩ := HN.out hb
    have GZ := hidP0 (Old.trans HW1.out HG2.out)
    clear hb HY HN
    go_wp2_with fail
    go_ret2
    exact ⟨_, rfl, GZ.out, BO.nil _ _⟩
  · have HEND := hidP0 (HY.out hb)
    have HOK := hidP0 (bx_ok kd N T E ps pl xs3 sg ls kss hb)
    obtain ⟨base, hbs⟩ : ∃ z, W1.heap.size = z := ⟨_, rfl⟩
    have hbase : base ≤ w2.heap.size := by rw [← hbs]; exact HG2.out.size
    have hlow : w.heap.size ≤ base := by rw [← hbs]; exact hb1
    obtain ⟨fl, hfl⟩ : ∃ f : Nat → List Int, ∀ k, f k = ((kss.take k).map prwB).flatten := ⟨_, fun _ => rfl⟩
    have HF0 : Hid (fl 0 = []) := by show _ = _; rw [hfl]; rfl
    have HFS : Hid (∀ k, k < kss.length → fl (k + 1) = fl k ++ (rwsB (pk kss k).1 ++ rwsB (pk kss k).2)) := fun k hk => by rw [hfl, hfl]; exact mapf_succ prwB ([], []) kss k hk
    have HFL : Hid (∀ k, (fl k).length ≤ 768 * k) := fun k => by rw [hfl]; exact mapf_le prwB 768 kss (fun r hr => prwB_le (HOK.out.kr r hr)) k
    have HFE : Hid (fl kss.length = (kss.map prwB).flatten) := by show _ = _; rw [hfl, List.take_length]
    have HLE1 : Hid (W1.heap.size ≤ base) := by rw [← hbs]; exact Nat.le_refl _
    clear hfl hb HY HN hb1 hbs
    obtain ⟨HD, hHD⟩ : ∃ z, headB kd N T E ps = z := ⟨_, rfl⟩
    have HHD := hidP0 hHD
    have HDl : HD.length ≤ 35 := by
      rw [← hHD, headB_len]
      have := HOK.out.ps
      omega
    have KH := hidP0 (impl_withHead base kd N T E ps [] a0 ac0 (.slice none 0 0) w2 W1 (BO.nil w2 base) hbase R0.out HG2.out HLE1.out (by have := HOK.out.ps; omega) (by simp))
    rw [hHD] at KH
    clear hHD
    have x0 := B2.out.c (i := 0) rfl
    have x1 := B2.out.c (i := 1) rfl
    have x2 := B2.out.c (i := 2) rfl
    have x3 := B2.out.c (i := 3) rfl
    have x4 := B2.out.c (i := 4) rfl
    go_wp2_with fail
    refine KH.out.mono ?_
    rintro e w3 ⟨v3, rfl, o3, r3⟩
    have O3 : Hid (BO w3 base v3 HD) := o3
    have RR3 := hidP0 r3
    have B3 := hidP0 (BX.out.old (r3.old HG2.out HLE1.out))
    have hb3 := hidP0 (Nat.le_trans hbase r3.size)
    clear o3 r3 KH B2 x0 x1 x2 x3 x4
    have z0 := B3.out.c (i := 0) rfl
    obtain ⟨va, vc, rfl⟩ := O3.out.slice
    by_cases h2 : kd = 2
    · have e2 : (kd == 2) = true := beq_iff_eq.2 h2
      have HM : Hid (midB kd pl xs3 ls = nbs 3 pl) := by show _ = _; unfold midB; rw [if_pos h2]
      have hpl := HOK.out.pl (.inl h2)
      have z5 := B3.out.c (i := 5) rfl
      have KM := hidP0 (impl_withNumbers base 3 pl HD (.slice va HD.length vc) (.slice a1 pl.length ac1) w3 O3.out hb3.out (fun W r => R1.out.old ((RR3.out.trans r).old HG2.out HLE1.out)) (by omega) (by omega))
      clear h2 hpl O3 B3
      go_wp2_with fail
      refine KM.out.mono ?_
      rintro e w4 ⟨v4, rfl, o4, r4⟩
      have O4 : Hid (BO w4 base v4 (HD ++ midB kd pl xs3 ls)) := by rw [HM.out]; exact o4
      have R4 := hidP0 (RR3.out.trans r4)
      clear o4 r4 KM RR3 HM z0 z5 e2 hb3
      obtain ⟨DD, hDD⟩ : ∃ z, HD ++ midB kd pl xs3 ls = z := ⟨_, rfl⟩
      have HDD := hidP0 hDD
      have hDl : DD.length ≤ 2000 := by
        rw [← hDD, List.length_append]
        have := midB_le kd N T E ps pl xs3 sg ls kss HOK.out
        omega
      rw [hDD] at O4
      obtain ⟨va4, vc4, rfl⟩ := O4.out.slice
      have HO0 : Hid (BO w4 base (.slice va4 DD.length vc4) (DD ++ fl 0)) := by rw [HF0.out, List.append_nil]; exact O4.out
      have X4 := hidP0 (BX.out.old (R4.out.old HG2.out HLE1.out))
      have z9 := X4.out.c (i := 9) rfl
      clear hDD O4
      go_wp2_with fail
      go_loopw [4, 6, 40] (fun t _ i W => ∃ k : Nat, k ≤ kss.length ∧ i = .int .i64 k ∧ Hid (BO W base t (DD ++ fl k)) ∧ Hid (Rg base w2 W)) (fun _ _ i _ => kss.length - (intOf i).toNat)
      case atStart => exact ⟨0, by omega, rfl, HO0, R4⟩
      case round =>
        clear HO0 R4 X4 z9
        obtain ⟨k, hk, rfl, HO, HR⟩ := hrel
        obtain ⟨ta, tc, rfl⟩ := HO.out.slice
        have hkl6 := HOK.out.kl
        by_cases hlt : k < kss.length
        · have d1 : decide ((k : Int) < (kss.length : Int)) = true := by simp; omega
          have ilt : (k : Int) < (kss.length : Int) := by omega
          have G0 := HR.out.old HG2.out HLE1.out
          obtain ⟨b, o, ua, va, rfl, hbb, hc0, hc1, hS0, hS1⟩ := HC.out k hlt
          have c0 := (G0.cell (p := ⟨b, o + k * 2, none⟩) hbb).trans hc0
          have c1 := (G0.cell (p := ⟨b, o + k * 2 + 1, none⟩) hbb).trans hc1
          obtain ⟨ya, yc, rfl⟩ := hS0.slice
          obtain ⟨za, zc, rfl⟩ := hS1.slice
          have hkr := HOK.out.kr (pk kss k) (by simp [pk, List.getD, hlt])
          have hlk : (DD ++ fl k).length ≤ 10000 := by
            have h1 := HFL.out k
            have h2 := HOK.out.kl
            rw [List.length_append]
            omega
          have hsu := HFS.out k hlt
          have hsz : base ≤ wr.heap.size := Nat.le_trans hbase HR.out.size
          generalize (pk kss k).1 = PA at *
          generalize (pk kss k).2 = PB at *
          obtain ⟨ds, hds⟩ : ∃ z, DD ++ fl k = z := ⟨_, rfl⟩
          rw [hds] at HO hlk
          rw [hds]
          have HN2 : Hid (∀ W t, BO W base t ((ds ++ rwsB PA) ++ rwsB PB) → BO W base t (DD ++ fl (k + 1))) := fun W t h => by
            rw [hsu, ← List.append_assoc, hds]
            rw [List.append_assoc] at h
            exact h
          obtain ⟨wP, hwP⟩ : ∃ z, wr.alloc (.cells #[.slice ya PA.length yc, .slice za PB.length zc] 77) = z := ⟨_, rfl⟩
          have OP : Hid (Old wr wP) := by rw [← hwP]; exact (Old.refl wr).alloc _
          have BP : Hid (Bk wP wr.heap.size #[.slice ya PA.length yc, .slice za PB.length zc] 77) := by rw [← hwP]; exact Bk.new' wr _ _ rfl
          have hszP : base ≤ wP.heap.size := Nat.le_trans hsz OP.out.size
          have HOP := hidP0 (HO.out.old OP.out)
          have RP := hidP0 (HR.out.trans (Rg.of_old OP.out hsz))
          have GP := hidP0 (Old.trans G0 OP.out)
          have KR1 := hidP0 (fun W (g : Old wP W) => impl_withRows base PA ds (.slice ta ds.length tc) (.slice ya PA.length yc) W W1 (HOP.out.old g) (Nat.le_trans hszP g.size) hS0 (Old.trans GP.out g) hkr.1.1 hkr.1.2 (by omega))
          have KR2 := hidP0 (fun W vv (g : Rg base wP W) (h : BO W base vv (ds ++ rwsB PA)) => impl_withRows base PB (ds ++ rwsB PA) vv (.slice za PB.length zc) W W1 h (Nat.le_trans hszP g.size) hS1 (g.old GP.out HLE1.out) hkr.2.1 hkr.2.2 (by rw [List.length_append]; have := rwsB_le PA hkr.1.1 hkr.1.2; omega))
          obtain ⟨kb, hkb⟩ : ∃ z, wr.heap.size = z := ⟨_, rfl⟩
          rw [hkb] at BP
          have HAS : Hid (∀ W', Rg base wP W' → (W'.cell? ⟨kb, 0, none⟩ = some (.slice ya PA.length yc) ∧ W'.cell? ⟨kb, 1, none⟩ = some (.slice za PB.length zc))) := fun W' r => ⟨(r.bk BP.out (by decide)).c (i := 0) rfl, (r.bk BP.out (by decide)).c (i := 1) rfl⟩
          have HZP := hidP0 hszP
          have hp0 := HAS.out wP (Rg.refl _ _)
          obtain ⟨hp0, hp1⟩ := hp0
          clear hc0 hc1 hS0 hS1 G0 hkr hlk hsu hds HO HR hsz OP hszP HOP GP
          go_wp2_with fail
          go_region_held3 (fun W' => W'.cell? ⟨kb, 0, none⟩ = some (.slice ya PA.length yc) ∧ W'.cell? ⟨kb, 1, none⟩ = some (.slice za PB.length zc)) (first | with_reducible exact HAS.out _ R7.out | with_reducible exact HAS.out _ R6.out | with_reducible exact HAS.out _ (Rg.of_old (Below.drew (Old.refl wP)) HZP.out) | with_reducible exact HAS.out _ (Rg.refl base wP) | fail) (first
            | (go_at_call 71; refine (KR2.out _ _ R6.out O6.out).mono ?_; rintro e w7 ⟨v7, rfl, o7, r7⟩; have O7 := hidP0 (HN2.out _ _ o7); have R7 := hidP0 (R6.out.trans r7); clear o7 r7)
            | (go_at_call 71; refine (KR1.out _ (Below.drew (Old.refl wP))).mono ?_; rintro e w6 ⟨v6, rfl, o6, r6⟩; have O6 := hidP0 o6; have R6 := hidP0 ((Rg.of_old (Below.drew (Old.refl wP)) HZP.out).trans r6); clear o6 r6)
            | fail)
          have R8 := hidP0 (RP.out.trans R7.out)
          clear HAS KR1 KR2 RP BP hp0 hp1 HN2 O6 R6 R7
          go_wp2_with fail
          exact ⟨⟨k + 1, by omega, by go_num, O7, R8⟩, by simp [intOf]; omega⟩
        · have d1 : decide ((k : Int) < (kss.length : Int)) = false := by simp; omega
          obtain rfl : k = kss.length := by omega
          have HOz : Hid (BO wr base (.slice ta (DD ++ fl kss.length).length tc) Z) := by
            have := HO.out
            rw [HEND.out.1]
            show BO wr base _ (boxB kd N T E ps pl xs3 ls kss)
            unfold boxB
            rw [HHD.out, HDD.out, ← HFE.out]
            exact this
          have GZ := hidP0 (HR.out.old HG2.out HLE1.out)
          obtain ⟨n, hn⟩ : ∃ z, (DD ++ fl kss.length).length = z := ⟨_, rfl⟩
          rw [hn] at HOz
          rw [hn]
          clear HO HR hn
          go_wp2_with fail
          go_ret2
          rw [HEND.out.2]
          refine ⟨_, rfl, Old.trans HW1.out GZ.out, ?_⟩
          have h := HOz.out
          refine ⟨h.1, ?_⟩
          rcases h.2 with hn | ⟨p, cap, cur, e5, hb5, hgg, rest⟩
          · exact .inl hn
          · exact .inr ⟨p, cap, cur, e5, by omega, hgg, rest⟩
    have e2 : (kd == 2) = false := beq_eq_false_iff_ne.2 h2
    by_cases h4 : kd = 4
    · have e4 : (kd == 4) = true := beq_iff_eq.2 h4
      have HM : Hid (midB kd pl xs3 ls = nbs 1 pl) := by show _ = _; unfold midB; rw [if_neg h2, if_pos h4]
      have hpl := HOK.out.pl (.inr h4)
      have z5 := B3.out.c (i := 5) rfl
      have KM := hidP0 (impl_withNumbers base 1 pl HD (.slice va HD.length vc) (.slice a1 pl.length ac1) w3 O3.out hb3.out (fun W r => R1.out.old ((RR3.out.trans r).old HG2.out HLE1.out)) (by omega) (by omega))
      clear h2 h4 hpl O3 B3
      go_wp2_with fail
      refine KM.out.mono ?_
      rintro e w4 ⟨v4, rfl, o4, r4⟩
      have O4 : Hid (BO w4 base v4 (HD ++ midB kd pl xs3 ls)) := by rw [HM.out]; exact o4
      have R4 := hidP0 (RR3.out.trans r4)
      clear o4 r4 KM RR3 HM z0 z5 e2 e4 hb3
      obtain ⟨DD, hDD⟩ : ∃ z, HD ++ midB kd pl xs3 ls = z := ⟨_, rfl⟩
      have HDD := hidP0 hDD
      have hDl : DD.length ≤ 2000 := by
        rw [← hDD, List.length_append]
        have := midB_le kd N T E ps pl xs3 sg ls kss HOK.out
        omega
      rw [hDD] at O4
      obtain ⟨va4, vc4, rfl⟩ := O4.out.slice
      have HO0 : Hid (BO w4 base (.slice va4 DD.length vc4) (DD ++ fl 0)) := by rw [HF0.out, List.append_nil]; exact O4.out
      have X4 := hidP0 (BX.out.old (R4.out.old HG2.out HLE1.out))
      have z9 := X4.out.c (i := 9) rfl
      clear hDD O4
      go_wp2_with fail
      go_loopw [4, 6, 40] (fun t _ i W => ∃ k : Nat, k ≤ kss.length ∧ i = .int .i64 k ∧ Hid (BO W base t (DD ++ fl k)) ∧ Hid (Rg base w2 W)) (fun _ _ i _ => kss.length - (intOf i).toNat)
      case atStart => exact ⟨0, by omega, rfl, HO0, R4⟩
      case round =>
        clear HO0 R4 X4 z9
        obtain ⟨k, hk, rfl, HO, HR⟩ := hrel
        obtain ⟨ta, tc, rfl⟩ := HO.out.slice
        have hkl6 := HOK.out.kl
        by_cases hlt : k < kss.length
        · have d1 : decide ((k : Int) < (kss.length : Int)) = true := by simp; omega
          have ilt : (k : Int) < (kss.length : Int) := by omega
          have G0 := HR.out.old HG2.out HLE1.out
          obtain ⟨b, o, ua, va, rfl, hbb, hc0, hc1, hS0, hS1⟩ := HC.out k hlt
          have c0 := (G0.cell (p := ⟨b, o + k * 2, none⟩) hbb).trans hc0
          have c1 := (G0.cell (p := ⟨b, o + k * 2 + 1, none⟩) hbb).trans hc1
          obtain ⟨ya, yc, rfl⟩ := hS0.slice
          obtain ⟨za, zc, rfl⟩ := hS1.slice
          have hkr := HOK.out.kr (pk kss k) (by simp [pk, List.getD, hlt])
          have hlk : (DD ++ fl k).length ≤ 10000 := by
            have h1 := HFL.out k
            have h2 := HOK.out.kl
            rw [List.length_append]
            omega
          have hsu := HFS.out k hlt
          have hsz : base ≤ wr.heap.size := Nat.le_trans hbase HR.out.size
          generalize (pk kss k).1 = PA at *
          generalize (pk kss k).2 = PB at *
          obtain ⟨ds, hds⟩ : ∃ z, DD ++ fl k = z := ⟨_, rfl⟩
          rw [hds] at HO hlk
          rw [hds]
          have HN2 : Hid (∀ W t, BO W base t ((ds ++ rwsB PA) ++ rwsB PB) → BO W base t (DD ++ fl (k + 1))) := fun W t h => by
            rw [hsu, ← List.append_assoc, hds]
            rw [List.append_assoc] at h
            exact h
          obtain ⟨wP, hwP⟩ : ∃ z, wr.alloc (.cells #[.slice ya PA.length yc, .slice za PB.length zc] 77) = z := ⟨_, rfl⟩
          have OP : Hid (Old wr wP) := by rw [← hwP]; exact (Old.refl wr).alloc _
          have BP : Hid (Bk wP wr.heap.size #[.slice ya PA.length yc, .slice za PB.length zc] 77) := by rw [← hwP]; exact Bk.new' wr _ _ rfl
          have hszP : base ≤ wP.heap.size := Nat.le_trans hsz OP.out.size
          have HOP := hidP0 (HO.out.old OP.out)
          have RP := hidP0 (HR.out.trans (Rg.of_old OP.out hsz))
          have GP := hidP0 (Old.trans G0 OP.out)
          have KR1 := hidP0 (fun W (g : Old wP W) => impl_withRows base PA ds (.slice ta ds.length tc) (.slice ya PA.length yc) W W1 (HOP.out.old g) (Nat.le_trans hszP g.size) hS0 (Old.trans GP.out g) hkr.1.1 hkr.1.2 (by omega))
          have KR2 := hidP0 (fun W vv (g : Rg base wP W) (h : BO W base vv (ds ++ rwsB PA)) => impl_withRows base PB (ds ++ rwsB PA) vv (.slice za PB.length zc) W W1 h (Nat.le_trans hszP g.size) hS1 (g.old GP.out HLE1.out) hkr.2.1 hkr.2.2 (by rw [List.length_append]; have := rwsB_le PA hkr.1.1 hkr.1.2; omega))
          obtain ⟨kb, hkb⟩ : ∃ z, wr.heap.size = z := ⟨_, rfl⟩
          rw [hkb] at BP
          have HAS : Hid (∀ W', Rg base wP W' → (W'.cell? ⟨kb, 0, none⟩ = some (.slice ya PA.length yc) ∧ W'.cell? ⟨kb, 1, none⟩ = some (.slice za PB.length zc))) := fun W' r => ⟨(r.bk BP.out (by decide)).c (i := 0) rfl, (r.bk BP.out (by decide)).c (i := 1) rfl⟩
          have HZP := hidP0 hszP
          have hp0 := HAS.out wP (Rg.refl _ _)
          obtain ⟨hp0, hp1⟩ := hp0
          clear hc0 hc1 hS0 hS1 G0 hkr hlk hsu hds HO HR hsz OP hszP HOP GP
          go_wp2_with fail
          go_region_held3 (fun W' => W'.cell? ⟨kb, 0, none⟩ = some (.slice ya PA.length yc) ∧ W'.cell? ⟨kb, 1, none⟩ = some (.slice za PB.length zc)) (first | with_reducible exact HAS.out _ R7.out | with_reducible exact HAS.out _ R6.out | with_reducible exact HAS.out _ (Rg.of_old (Below.drew (Old.refl wP)) HZP.out) | with_reducible exact HAS.out _ (Rg.refl base wP) | fail) (first
            | (go_at_call 71; refine (KR2.out _ _ R6.out O6.out).mono ?_; rintro e w7 ⟨v7, rfl, o7, r7⟩; have O7 := hidP0 (HN2.out _ _ o7); have R7 := hidP0 (R6.out.trans r7); clear o7 r7)
            | (go_at_call 71; refine (KR1.out _ (Below.drew (Old.refl wP))).mono ?_; rintro e w6 ⟨v6, rfl, o6, r6⟩; have O6 := hidP0 o6; have R6 := hidP0 ((Rg.of_old (Below.drew (Old.refl wP)) HZP.out).trans r6); clear o6 r6)
            | fail)
          have R8 := hidP0 (RP.out.trans R7.out)
          clear HAS KR1 KR2 RP BP hp0 hp1 HN2 O6 R6 R7
          go_wp2_with fail
          exact ⟨⟨k + 1, by omega, by go_num, O7, R8⟩, by simp [intOf]; omega⟩
        · have d1 : decide ((k : Int) < (kss.length : Int)) = false := by simp; omega
          obtain rfl : k = kss.length := by omega
          have HOz : Hid (BO wr base (.slice ta (DD ++ fl kss.length).length tc) Z) := by
            have := HO.out
            rw [HEND.out.1]
            show BO wr base _ (boxB kd N T E ps pl xs3 ls kss)
            unfold boxB
            rw [HHD.out, HDD.out, ← HFE.out]
            exact this
          have GZ := hidP0 (HR.out.old HG2.out HLE1.out)
          obtain ⟨n, hn⟩ : ∃ z, (DD ++ fl kss.length).length = z := ⟨_, rfl⟩
          rw [hn] at HOz
          rw [hn]
          clear HO HR hn
          go_wp2_with fail
          go_ret2
          rw [HEND.out.2]
          refine ⟨_, rfl, Old.trans HW1.out GZ.out, ?_⟩
          have h := HOz.out
          refine ⟨h.1, ?_⟩
          rcases h.2 with hn | ⟨p, cap, cur, e5, hb5, hgg, rest⟩
          · exact .inl hn
          · exact .inr ⟨p, cap, cur, e5, by omega, hgg, rest⟩
    have e4 : (kd == 4) = false := beq_eq_false_iff_ne.2 h4
    by_cases h3 : kd = 3
    · have e3 : (kd == 3) = true := beq_iff_eq.2 h3
      have HM : Hid (midB kd pl xs3 ls = cipB xs3 ls) := by show _ = _; unfold midB; rw [if_neg h2, if_neg h4, if_pos h3]
      have z6 := B3.out.c (i := 6) rfl
      have z7 := B3.out.c (i := 7) rfl
      have z8 := B3.out.c (i := 8) rfl
      have KM := hidP0 (impl_withCipher base xs3 sg ls HD a3 ac3 (.slice va HD.length vc) (.slice a2 xs3.length ac2) w3 W1 O3.out hb3.out R2.out R3.out (RR3.out.old HG2.out HLE1.out) HLE1.out (HOK.out.xl h3) (HOK.out.xr h3) (by have := HOK.out.ls h3; omega) (by omega))
      clear h2 h4 h3 O3 B3
      go_wp2_with fail
      refine KM.out.mono ?_
      rintro e w4 ⟨v4, rfl, o4, r4⟩
      have O4 : Hid (BO w4 base v4 (HD ++ midB kd pl xs3 ls)) := by rw [HM.out]; exact o4
      have R4 := hidP0 (RR3.out.trans r4)
      clear o4 r4 KM RR3 HM z0 z6 z7 z8 e2 e4 e3 hb3
      obtain ⟨DD, hDD⟩ : ∃ z, HD ++ midB kd pl xs3 ls = z := ⟨_, rfl⟩
      have HDD := hidP0 hDD
      have hDl : DD.length ≤ 2000 := by
        rw [← hDD, List.length_append]
        have := midB_le kd N T E ps pl xs3 sg ls kss HOK.out
        omega
      rw [hDD] at O4
      obtain ⟨va4, vc4, rfl⟩ := O4.out.slice
      have HO0 : Hid (BO w4 base (.slice va4 DD.length vc4) (DD ++ fl 0)) := by rw [HF0.out, List.append_nil]; exact O4.out
      have X4 := hidP0 (BX.out.old (R4.out.old HG2.out HLE1.out))
      have z9 := X4.out.c (i := 9) rfl
      clear hDD O4
      go_wp2_with fail
      go_loopw [4, 6, 40] (fun t _ i W => ∃ k : Nat, k ≤ kss.length ∧ i = .int .i64 k ∧ Hid (BO W base t (DD ++ fl k)) ∧ Hid (Rg base w2 W)) (fun _ _ i _ => kss.length - (intOf i).toNat)
      case atStart => exact ⟨0, by omega, rfl, HO0, R4⟩
      case round =>
        clear HO0 R4 X4 z9
        obtain ⟨k, hk, rfl, HO, HR⟩ := hrel
        obtain ⟨ta, tc, rfl⟩ := HO.out.slice
        have hkl6 := HOK.out.kl
        by_cases hlt : k < kss.length
        · have d1 : decide ((k : Int) < (kss.length : Int)) = true := by simp; omega
          have ilt : (k : Int) < (kss.length : Int) := by omega
          have G0 := HR.out.old HG2.out HLE1.out
          obtain ⟨b, o, ua, va, rfl, hbb, hc0, hc1, hS0, hS1⟩ := HC.out k hlt
          have c0 := (G0.cell (p := ⟨b, o + k * 2, none⟩) hbb).trans hc0
          have c1 := (G0.cell (p := ⟨b, o + k * 2 + 1, none⟩) hbb).trans hc1
          obtain ⟨ya, yc, rfl⟩ := hS0.slice
          obtain ⟨za, zc, rfl⟩ := hS1.slice
          have hkr := HOK.out.kr (pk kss k) (by simp [pk, List.getD, hlt])
          have hlk : (DD ++ fl k).length ≤ 10000 := by
            have h1 := HFL.out k
            have h2 := HOK.out.kl
            rw [List.length_append]
            omega
          have hsu := HFS.out k hlt
          have hsz : base ≤ wr.heap.size := Nat.le_trans hbase HR.out.size
          generalize (pk kss k).1 = PA at *
          generalize (pk kss k).2 = PB at *
          obtain ⟨ds, hds⟩ : ∃ z, DD ++ fl k = z := ⟨_, rfl⟩
          rw [hds] at HO hlk
          rw [hds]
          have HN2 : Hid (∀ W t, BO W base t ((ds ++ rwsB PA) ++ rwsB PB) → BO W base t (DD ++ fl (k + 1))) := fun W t h => by
            rw [hsu, ← List.append_assoc, hds]
            rw [List.append_assoc] at h
            exact h
          obtain ⟨wP, hwP⟩ : ∃ z, wr.alloc (.cells #[.slice ya PA.length yc, .slice za PB.length zc] 77) = z := ⟨_, rfl⟩
          have OP : Hid (Old wr wP) := by rw [← hwP]; exact (Old.refl wr).alloc _
          have BP : Hid (Bk wP wr.heap.size #[.slice ya PA.length yc, .slice za PB.length zc] 77) := by rw [← hwP]; exact Bk.new' wr _ _ rfl
          have hszP : base ≤ wP.heap.size := Nat.le_trans hsz OP.out.size
          have HOP := hidP0 (HO.out.old OP.out)
          have RP := hidP0 (HR.out.trans (Rg.of_old OP.out hsz))
          have GP := hidP0 (Old.trans G0 OP.out)
          have KR1 := hidP0 (fun W (g : Old wP W) => impl_withRows base PA ds (.slice ta ds.length tc) (.slice ya PA.length yc) W W1 (HOP.out.old g) (Nat.le_trans hszP g.size) hS0 (Old.trans GP.out g) hkr.1.1 hkr.1.2 (by omega))
          have KR2 := hidP0 (fun W vv (g : Rg base wP W) (h : BO W base vv (ds ++ rwsB PA)) => impl_withRows base PB (ds ++ rwsB PA) vv (.slice za PB.length zc) W W1 h (Nat.le_trans hszP g.size) hS1 (g.old GP.out HLE1.out) hkr.2.1 hkr.2.2 (by rw [List.length_append]; have := rwsB_le PA hkr.1.1 hkr.1.2; omega))
          obtain ⟨kb, hkb⟩ : ∃ z, wr.heap.size = z := ⟨_, rfl⟩
          rw [hkb] at BP
          have HAS : Hid (∀ W', Rg base wP W' → (W'.cell? ⟨kb, 0, none⟩ = some (.slice ya PA.length yc) ∧ W'.cell? ⟨kb, 1, none⟩ = some (.slice za PB.length zc))) := fun W' r => ⟨(r.bk BP.out (by decide)).c (i := 0) rfl, (r.bk BP.out (by decide)).c (i := 1) rfl⟩
          have HZP := hidP0 hszP
          have hp0 := HAS.out wP (Rg.refl _ _)
          obtain ⟨hp0, hp1⟩ := hp0
          clear hc0 hc1 hS0 hS1 G0 hkr hlk hsu hds HO HR hsz OP hszP HOP GP
          go_wp2_with fail
          go_region_held3 (fun W' => W'.cell? ⟨kb, 0, none⟩ = some (.slice ya PA.length yc) ∧ W'.cell? ⟨kb, 1, none⟩ = some (.slice za PB.length zc)) (first | with_reducible exact HAS.out _ R7.out | with_reducible exact HAS.out _ R6.out | with_reducible exact HAS.out _ (Rg.of_old (Below.drew (Old.refl wP)) HZP.out) | with_reducible exact HAS.out _ (Rg.refl base wP) | fail) (first
            | (go_at_call 71; refine (KR2.out _ _ R6.out O6.out).mono ?_; rintro e w7 ⟨v7, rfl, o7, r7⟩; have O7 := hidP0 (HN2.out _ _ o7); have R7 := hidP0 (R6.out.trans r7); clear o7 r7)
            | (go_at_call 71; refine (KR1.out _ (Below.drew (Old.refl wP))).mono ?_; rintro e w6 ⟨v6, rfl, o6, r6⟩; have O6 := hidP0 o6; have R6 := hidP0 ((Rg.of_old (Below.drew (Old.refl wP)) HZP.out).trans r6); clear o6 r6)
            | fail)
          have R8 := hidP0 (RP.out.trans R7.out)
          clear HAS KR1 KR2 RP BP hp0 hp1 HN2 O6 R6 R7
          go_wp2_with fail
          exact ⟨⟨k + 1, by omega, by go_num, O7, R8⟩, by simp [intOf]; omega⟩
        · have d1 : decide ((k : Int) < (kss.length : Int)) = false := by simp; omega
          obtain rfl : k = kss.length := by omega
          have HOz : Hid (BO wr base (.slice ta (DD ++ fl kss.length).length tc) Z) := by
            have := HO.out
            rw [HEND.out.1]
            show BO wr base _ (boxB kd N T E ps pl xs3 ls kss)
            unfold boxB
            rw [HHD.out, HDD.out, ← HFE.out]
            exact this
          have GZ := hidP0 (HR.out.old HG2.out HLE1.out)
          obtain ⟨n, hn⟩ : ∃ z, (DD ++ fl kss.length).length = z := ⟨_, rfl⟩
          rw [hn] at HOz
          rw [hn]
          clear HO HR hn
          go_wp2_with fail
          go_ret2
          rw [HEND.out.2]
          refine ⟨_, rfl, Old.trans HW1.out GZ.out, ?_⟩
          have h := HOz.out
          refine ⟨h.1, ?_⟩
          rcases h.2 with hn | ⟨p, cap, cur, e5, hb5, hgg, rest⟩
          · exact .inl hn
          · exact .inr ⟨p, cap, cur, e5, by omega, hgg, rest⟩
    have e3 : (kd == 3) = false := beq_eq_false_iff_ne.2 h3
    have HM : Hid (midB kd pl xs3 ls = []) := by show _ = _; unfold midB; rw [if_neg h2, if_neg h4, if_neg h3]
    have O4 : Hid (BO w3 base (.slice va HD.length vc) (HD ++ midB kd pl xs3 ls)) := by rw [HM.out, List.append_nil]; exact O3.out
    have R4 := hidP0 RR3.out
    clear h2 h4 h3 RR3 HM hb3 O3 B3
    obtain ⟨DD, hDD⟩ : ∃ z, HD ++ midB kd pl xs3 ls = z := ⟨_, rfl⟩
    have HDD := hidP0 hDD
    have hDl : DD.length ≤ 2000 := by
      rw [← hDD, List.length_append]
      have := midB_le kd N T E ps pl xs3 sg ls kss HOK.out
      omega
    rw [hDD] at O4
    have HO0 : Hid (BO w3 base (.slice va HD.length vc) (DD ++ fl 0)) := by rw [HF0.out, List.append_nil]; exact O4.out
    have X4 := hidP0 (BX.out.old (R4.out.old HG2.out HLE1.out))
    have z9 := X4.out.c (i := 9) rfl
    clear hDD O4
    go_wp2_with fail
    go_loopw [4, 6, 40] (fun t _ i W => ∃ k : Nat, k ≤ kss.length ∧ i = .int .i64 k ∧ Hid (BO W base t (DD ++ fl k)) ∧ Hid (Rg base w2 W)) (fun _ _ i _ => kss.length - (intOf i).toNat)
    case atStart => exact ⟨0, by omega, rfl, HO0, R4⟩
    case round =>
      clear HO0 R4 X4 z9
      obtain ⟨k, hk, rfl, HO, HR⟩ := hrel
      obtain ⟨ta, tc, rfl⟩ := HO.out.slice
      have hkl6 := HOK.out.kl
      by_cases hlt : k < kss.length
      · have d1 : decide ((k : Int) < (kss.length : Int)) = true := by simp; omega
        have ilt : (k : Int) < (kss.length : Int) := by omega
        have G0 := HR.out.old HG2.out HLE1.out
        obtain ⟨b, o, ua, va, rfl, hbb, hc0, hc1, hS0, hS1⟩ := HC.out k hlt
        have c0 := (G0.cell (p := ⟨b, o + k * 2, none⟩) hbb).trans hc0
        have c1 := (G0.cell (p := ⟨b, o + k * 2 + 1, none⟩) hbb).trans hc1
        obtain ⟨ya, yc, rfl⟩ := hS0.slice
        obtain ⟨za, zc, rfl⟩ := hS1.slice
        have hkr := HOK.out.kr (pk kss k) (by simp [pk, List.getD, hlt])
        have hlk : (DD ++ fl k).length ≤ 10000 := by
          have h1 := HFL.out k
          have h2 := HOK.out.kl
          rw [List.length_append]
          omega
        have hsu := HFS.out k hlt
        have hsz : base ≤ wr.heap.size := Nat.le_trans hbase HR.out.size
        generalize (pk kss k).1 = PA at *
        generalize (pk kss k).2 = PB at *
        obtain ⟨ds, hds⟩ : ∃ z, DD ++ fl k = z := ⟨_, rfl⟩
        rw [hds] at HO hlk
        rw [hds]
        have HN2 : Hid (∀ W t, BO W base t ((ds ++ rwsB PA) ++ rwsB PB) → BO W base t (DD ++ fl (k + 1))) := fun W t h => by
          rw [hsu, ← List.append_assoc, hds]
          rw [List.append_assoc] at h
          exact h
        obtain ⟨wP, hwP⟩ : ∃ z, wr.alloc (.cells #[.slice ya PA.length yc, .slice za PB.length zc] 77) = z := ⟨_, rfl⟩
        have OP : Hid (Old wr wP) := by rw [← hwP]; exact (Old.refl wr).alloc _
        have BP : Hid (Bk wP wr.heap.size #[.slice ya PA.length yc, .slice za PB.length zc] 77) := by rw [← hwP]; exact Bk.new' wr _ _ rfl
        have hszP : base ≤ wP.heap.size := Nat.le_trans hsz OP.out.size
        have HOP := hidP0 (HO.out.old OP.out)
        have RP := hidP0 (HR.out.trans (Rg.of_old OP.out hsz))
        have GP := hidP0 (Old.trans G0 OP.out)
        have KR1 := hidP0 (fun W (g : Old wP W) => impl_withRows base PA ds (.slice ta ds.length tc) (.slice ya PA.length yc) W W1 (HOP.out.old g) (Nat.le_trans hszP g.size) hS0 (Old.trans GP.out g) hkr.1.1 hkr.1.2 (by omega))
        have KR2 := hidP0 (fun W vv (g : Rg base wP W) (h : BO W base vv (ds ++ rwsB PA)) => impl_withRows base PB (ds ++ rwsB PA) vv (.slice za PB.length zc) W W1 h (Nat.le_trans hszP g.size) hS1 (g.old GP.out HLE1.out) hkr.2.1 hkr.2.2 (by rw [List.length_append]; have := rwsB_le PA hkr.1.1 hkr.1.2; omega))
        obtain ⟨kb, hkb⟩ : ∃ z, wr.heap.size = z := ⟨_, rfl⟩
        rw [hkb] at BP
        have HAS : Hid (∀ W', Rg base wP W' → (W'.cell? ⟨kb, 0, none⟩ = some (.slice ya PA.length yc) ∧ W'.cell? ⟨kb, 1, none⟩ = some (.slice za PB.length zc))) := fun W' r => ⟨(r.bk BP.out (by decide)).c (i := 0) rfl, (r.bk BP.out (by decide)).c (i := 1) rfl⟩
        have HZP := hidP0 hszP
        have hp0 := HAS.out wP (Rg.refl _ _)
        obtain ⟨hp0, hp1⟩ := hp0
        clear hc0 hc1 hS0 hS1 G0 hkr hlk hsu hds HO HR hsz OP hszP HOP GP
        go_wp2_with fail
        go_region_held3 (fun W' => W'.cell? ⟨kb, 0, none⟩ = some (.slice ya PA.length yc) ∧ W'.cell? ⟨kb, 1, none⟩ = some (.slice za PB.length zc)) (first | with_reducible exact HAS.out _ R7.out | with_reducible exact HAS.out _ R6.out | with_reducible exact HAS.out _ (Rg.of_old (Below.drew (Old.refl wP)) HZP.out) | with_reducible exact HAS.out _ (Rg.refl base wP) | fail) (first
          | (go_at_call 71; refine (KR2.out _ _ R6.out O6.out).mono ?_; rintro e w7 ⟨v7, rfl, o7, r7⟩; have O7 := hidP0 (HN2.out _ _ o7); have R7 := hidP0 (R6.out.trans r7); clear o7 r7)
          | (go_at_call 71; refine (KR1.out _ (Below.drew (Old.refl wP))).mono ?_; rintro e w6 ⟨v6, rfl, o6, r6⟩; have O6 := hidP0 o6; have R6 := hidP0 ((Rg.of_old (Below.drew (Old.refl wP)) HZP.out).trans r6); clear o6 r6)
          | fail)
        have R8 := hidP0 (RP.out.trans R7.out)
        clear HAS KR1 KR2 RP BP hp0 hp1 HN2 O6 R6 R7
        go_wp2_with fail
        exact ⟨⟨k + 1, by omega, by go_num, O7, R8⟩, by simp [intOf]; omega⟩
      · have d1 : decide ((k : Int) < (kss.length : Int)) = false := by simp; omega
        obtain rfl : k = kss.length := by omega
        have HOz : Hid (BO wr base (.slice ta (DD ++ fl kss.length).length tc) Z) := by
          have := HO.out
          rw [HEND.out.1]
          show BO wr base _ (boxB kd N T E ps pl xs3 ls kss)
          unfold boxB
          rw [HHD.out, HDD.out, ← HFE.out]
          exact this
        have GZ := hidP0 (HR.out.old HG2.out HLE1.out)
        obtain ⟨n, hn⟩ : ∃ z, (DD ++ fl kss.length).length = z := ⟨_, rfl⟩
        rw [hn] at HOz
        rw [hn]
        clear HO HR hn
        go_wp2_with fail
        go_ret2
        rw [HEND.out.2]
        refine ⟨_, rfl, Old.trans HW1.out GZ.out, ?_⟩
        have h := HOz.out
        refine ⟨h.1, ?_⟩
        rcases h.2 with hn | ⟨p, cap, cur, e5, hb5, hgg, rest⟩
        · exact .inl hn
        · exact .inr ⟨p, cap, cur, e5, by omega, hgg, rest⟩
end Go.Proofs.YtanijpekdnkicaaGreatDoor
/- Proved: the contract of the model's WriteBox. -/
namespace Go.Proofs.YtanijpekdnkicaaGreatDoor
open Go.ChangeShapes Go.WideShapes Go.ChangeAt Go.RowKit
set_option linter.unusedVariables false
set_option linter.unusedSimpArgs false
theorem BO.lit {w : World} {base : Nat} (bs : List Int) (hb : base ≤ w.heap.size) (hl : bs.length ≤ 1000) : BO (w.alloc (.cells (bs.map (Value.int .u8)).toArray 5)) base (.slice (some ⟨w.heap.size, 0, none⟩) bs.length bs.length) bs :=
  ⟨by simp, Or.inr ⟨w.heap.size, bs.length, _, rfl, hb, heap_alloc_new w _, Nat.le_refl _, by unfold maxLen; omega, by simp, by simp; exact List.take_of_length_le (by simp)⟩⟩
theorem byA_zero (y : Int) : byA y 0 = y % 256 := by simp [byA]
theorem nb_one (y : Int) : nb y 1 = [y % 256] := by simp [nb, byA_zero]
theorem nbs_one1 (y : Int) : nbs 1 [y] = [y % 256] := by simp [nbs, nb_one]
theorem nbs_one (w : Nat) (y : Int) : nbs w [y] = nb y w := by simp [nbs]
theorem headB_eq (kd N T E : Int) (ps : List Int) (h : ps.length ≤ 6) : headB kd N T E ps = [66, 70, 86, 49, (kd % 256), (N % 256), (E % 256), (ps.length : Int)] ++ nb T 3 ++ nbs 4 ps := by
  have e : nbs 1 [kd, N, E, (ps.length : Int)] = [kd % 256, N % 256, E % 256, (ps.length : Int)] := by
    simp [nbs, nb_one]
    omega
  unfold headB
  rw [e, nbs_one]
  rfl
set_option maxRecDepth 100000 in
set_option maxHeartbeats 16000000 in
theorem spec_WriteBox (kd N T E : Int) (ps pl : List Int) (xs3 : List (List (List Int))) (sg : Bool) (ls : List Int) (kss : List PrV) (v : Value) (w : World) (hv : BoxQ w v kd N T E ps pl xs3 sg ls kss) (hl : BoxLe 1048576 ps pl xs3 ls kss) (hx : ∀ x ∈ ps, -9223372036854775808 ≤ x ∧ x ≤ 9223372036854775807) (Z : List Int) (ok : Bool) (hy : bxB kd N T E ps pl xs3 sg ls kss = true → Z = boxB kd N T E ps pl xs3 ls kss ∧ ok = true) (hn : bxB kd N T E ps pl xs3 sg ls kss = false → Z = [] ∧ ok = false) :
    Calls Tryz.prog 24 #[v] w (BYA Z ok w) := by
  obtain ⟨i0, hi, hz0, hz1, hz2⟩ := info_parts Tryz.infoU8
  have HQ := hv
  obtain ⟨_, _, _, _, _, _, _, _, _, _, e0, _, HW⟩ := hv
  obtain ⟨a0, ac0, a1, ac1, a2, ac2, a3, ac3, a4, ac4, e, r0, r1, r2, r3, r4⟩ := HW
  subst e
  clear e0
  obtain ⟨W1, hW1⟩ : ∃ z, w.alloc (.cells #[.int .i64 kd, .int .i64 N, .int .i64 T, .int .i64 E, .slice a0 ps.length ac0, .slice a1 pl.length ac1, .slice a2 xs3.length ac2, .bool sg, .slice a3 ls.length ac3, .slice a4 kss.length ac4] 59) = z := ⟨_, rfl⟩
  have HW1 : Hid (Old w W1) := by rw [← hW1]; exact (Old.refl w).alloc _
  have BX1 : Hid (Bk W1 w.heap.size #[.int .i64 kd, .int .i64 N, .int .i64 T, .int .i64 E, .slice a0 ps.length ac0, .slice a1 pl.length ac1, .slice a2 xs3.length ac2, .bool sg, .slice a3 ls.length ac3, .slice a4 kss.length ac4] 59) := by rw [← hW1]; exact Bk.new' w _ _ rfl
  have BX := BX1
  have hb1 : w.heap.size ≤ W1.heap.size := HW1.out.size
  have KG := hidP0 (spec_goodBox kd N T E ps pl xs3 sg ls kss _ W1 (HQ.old HW1.out) hl hx)
  have R0 := hidP0 (r0.old HW1.out)
  have R1 := hidP0 (r1.old HW1.out)
  have R2' := r2.old HW1.out
  have R3 := hidP0 (r3.old HW1.out)
  have R4' := r4.old HW1.out
  have HC : Hid (∀ k, k < kss.length → ∃ b o ua va, a4 = some ⟨b, o, none⟩ ∧ b < W1.heap.size ∧ W1.cell? ⟨b, o + k * 2, none⟩ = some ua ∧ W1.cell? ⟨b, o + k * 2 + 1, none⟩ = some va ∧ RowS W1 ua (pk kss k).1 ∧ RowS W1 va (pk kss k).2) := fun k hk => by
    rcases R4' with ⟨_, _, _, e'⟩ | ⟨b, o, cap, us, vs, e, hbb, h0, hc⟩
    · subst e'
      simp at hk
    · obtain ⟨rfl, _⟩ : a4 = some ⟨b, o, none⟩ ∧ ac4 = cap := by simpa using e
      obtain ⟨q1, q2, q3, q4⟩ := hc k hk
      exact ⟨b, o, us k, vs k, rfl, hbb, q1, q2, q3, q4⟩
  have HC3 : Hid (∀ k, k < xs3.length → ∃ b o uk, a2 = some ⟨b, o, none⟩ ∧ b < W1.heap.size ∧ W1.cell? ⟨b, o + k, none⟩ = some uk ∧ RowS W1 uk (xs3.getD k [])) := fun k hk => by
    rcases R2' with ⟨_, _, _, e'⟩ | ⟨b, o, cap, us, e, hbb, h0, hc⟩
    · subst e'
      simp at hk
    · obtain ⟨rfl, _⟩ : a2 = some ⟨b, o, none⟩ ∧ ac2 = cap := by simpa using e
      exact ⟨b, o, us k, rfl, hbb, (hc k hk).1, (hc k hk).2⟩
  have HY := hidP0 hy
  have HN := hidP0 hn
  obtain ⟨kp, hkp⟩ : ∃ k, w.heap.size = k := ⟨_, rfl⟩
  have HKP := hidP0 hkp
  rw [hkp] at BX
  have x0 := BX.out.c (i := 0) rfl
  have x1 := BX.out.c (i := 1) rfl
  have x2 := BX.out.c (i := 2) rfl
  have x3 := BX.out.c (i := 3) rfl
  have x4 := BX.out.c (i := 4) rfl
  have x5 := BX.out.c (i := 5) rfl
  have x6 := BX.out.c (i := 6) rfl
  have x7 := BX.out.c (i := 7) rfl
  have x8 := BX.out.c (i := 8) rfl
  have x9 := BX.out.c (i := 9) rfl
  clear hy hn hl hx r0 r1 r2 r3 r4 R4' R2' HQ BX1
  go_enter Tryz.func24, Tryz.ntmps24
  go_wp2_with fail
  refine KG.out.mono ?_
  rintro e w2 ⟨rfl, g2⟩
  have HG2 := hidP0 g2
  have B2 := hidP0 (BX.out.old g2)
  clear g2 KG x0 x1 x2 x3 x4 x5 x6 x7 x8 x9 hW1 hkp
  cases hb : bxB kd N T E ps pl xs3 sg ls kss
  · obtain ⟨rfl, rfl⟩ := HN.out hb
    have GZ := hidP0 (Old.trans HW1.out HG2.out)
    clear hb HY HN
    go_wp2_with fail
    go_ret2
    exact ⟨_, rfl, GZ.out, BO.nil _ _⟩
  · have HEND := hidP0 (HY.out hb)
    have HOK := hidP0 (bx_ok kd N T E ps pl xs3 sg ls kss hb)
    obtain ⟨base, hbs⟩ : ∃ z, W1.heap.size = z := ⟨_, rfl⟩
    have hbase : base ≤ w2.heap.size := by rw [← hbs]; exact HG2.out.size
    have hlow : w.heap.size ≤ base := by rw [← hbs]; exact hb1
    have HLE1 : Hid (W1.heap.size ≤ base) := by rw [← hbs]; exact Nat.le_refl _
    obtain ⟨fl, hfl⟩ : ∃ f : Nat → List Int, ∀ k, f k = ((kss.take k).map prwB).flatten := ⟨_, fun _ => rfl⟩
    have HF0 : Hid (fl 0 = []) := by show _ = _; rw [hfl]; rfl
    have HFS : Hid (∀ k, k < kss.length → fl (k + 1) = fl k ++ (rwsB (pk kss k).1 ++ rwsB (pk kss k).2)) := fun k hk => by rw [hfl, hfl]; exact mapf_succ prwB ([], []) kss k hk
    have HFL : Hid (∀ k, (fl k).length ≤ 768 * k) := fun k => by rw [hfl]; exact mapf_le prwB 768 kss (fun r hr => prwB_le (HOK.out.kr r hr)) k
    have HFE : Hid (fl kss.length = (kss.map prwB).flatten) := by show _ = _; rw [hfl, List.take_length]
    obtain ⟨fx, hfx⟩ : ∃ f : Nat → List Int, ∀ k, f k = ((xs3.take k).map rwsB).flatten := ⟨_, fun _ => rfl⟩
    have HX0 : Hid (fx 0 = []) := by show _ = _; rw [hfx]; rfl
    have HXS : Hid (∀ k, k < xs3.length → fx (k + 1) = fx k ++ rwsB (xs3.getD k [])) := fun k hk => by rw [hfx, hfx]; exact mapf_succ rwsB [] xs3 k hk
    have HXE : Hid (fx xs3.length = (xs3.map rwsB).flatten) := by show _ = _; rw [hfx, List.take_length]
    have HXL : Hid (∀ k, kd = 3 → (fx k).length ≤ 384 * k) := fun k h3 => by rw [hfx]; exact mapf_le rwsB 384 xs3 (fun r h => rwsB_le r (HOK.out.xr h3 r h).1 (HOK.out.xr h3 r h).2) k
    have hps := HOK.out.ps
    clear hfl hfx hb HY HN hb1 hbs
    obtain ⟨wC, hwC⟩ : ∃ z, w2.alloc (.cells #[.int .i64 N, .int .i64 T, .int .i64 E, .slice a0 ps.length ac0] 35) = z := ⟨_, rfl⟩
    have OC : Hid (Old w2 wC) := by rw [← hwC]; exact (Old.refl w2).alloc _
    have BC : Hid (Bk wC w2.heap.size #[.int .i64 N, .int .i64 T, .int .i64 E, .slice a0 ps.length ac0] 35) := by rw [← hwC]; exact Bk.new' w2 _ _ rfl
    have hszC : base ≤ wC.heap.size := Nat.le_trans hbase OC.out.size
    have HL : Hid (BO (wC.alloc (.cells #[.int .u8 66, .int .u8 70, .int .u8 86, .int .u8 49, .int .u8 (kd % 256), .int .u8 (N % 256), .int .u8 (E % 256), .int .u8 (ps.length : Int)] 5)) base (.slice (some ⟨wC.heap.size, 0, none⟩) 8 8) [66, 70, 86, 49, (kd % 256), (N % 256), (E % 256), (ps.length : Int)]) := BO.lit (w := wC) [66, 70, 86, 49, (kd % 256), (N % 256), (E % 256), (ps.length : Int)] hszC (by simp)
    have B2C := hidP0 (B2.out.old OC.out)
    have xx0 := B2C.out.c (i := 0) rfl
    have t1 := (BC.out.old ((Old.refl wC).alloc (.cells #[.int .u8 66, .int .u8 70, .int .u8 86, .int .u8 49, .int .u8 (kd % 256), .int .u8 (N % 256), .int .u8 (E % 256), .int .u8 (ps.length : Int)] 5))).c (i := 1) rfl
    have RC : Hid (Rg base w2 (wC.alloc (.cells #[.int .u8 66, .int .u8 70, .int .u8 86, .int .u8 49, .int .u8 (kd % 256), .int .u8 (N % 256), .int .u8 (E % 256), .int .u8 (ps.length : Int)] 5))) := (Rg.of_old OC.out hbase).alloc hszC _
    have BC2 := hidP0 (BC.out.old ((Old.refl wC).alloc (.cells #[.int .u8 66, .int .u8 70, .int .u8 86, .int .u8 49, .int .u8 (kd % 256), .int .u8 (N % 256), .int .u8 (E % 256), .int .u8 (ps.length : Int)] 5)))
    have KT := hidP0 (spec_l12Number base 3 T [66, 70, 86, 49, (kd % 256), (N % 256), (E % 256), (ps.length : Int)] _ _ HL.out (Nat.le_trans hbase RC.out.size) (by omega) (by simp))
    obtain ⟨kc, hkc⟩ : ∃ k, w2.heap.size = k := ⟨_, rfl⟩
    rw [hkc] at BC BC2 t1
    have x0 := B2.out.c (i := 0) rfl
    have x1 := B2.out.c (i := 1) rfl
    have x2 := B2.out.c (i := 2) rfl
    have x3 := B2.out.c (i := 3) rfl
    have x4 := B2.out.c (i := 4) rfl
    have y0 := BC.out.c (i := 0) rfl
    have y1 := BC.out.c (i := 1) rfl
    have y2 := BC.out.c (i := 2) rfl
    have y3 := BC.out.c (i := 3) rfl
    clear HL OC
    go_wp2_with fail
    refine KT.out.mono ?_
    rintro e w3 ⟨v3, rfl, o3, r3⟩
    obtain ⟨H8, hH8⟩ : ∃ z, [66, 70, 86, 49, (kd % 256), (N % 256), (E % 256), (ps.length : Int)] ++ nb T 3 = z := ⟨_, rfl⟩
    have HH8 := hidP0 hH8
    have h8l : H8.length ≤ 11 := by rw [← hH8, List.length_append, nb_len]; exact Nat.le_refl _
    rw [hH8] at o3
    have HO0 : Hid (BO w3 base v3 (H8 ++ nbs 4 (ps.take 0))) := by
      have : H8 ++ nbs 4 (ps.take 0) = H8 := by simp [nbs]
      rw [this]
      exact o3
    have R3' := hidP0 (RC.out.trans r3)
    have B3 := hidP0 (r3.bk BC2.out (by decide))
    have q3 := B3.out.c (i := 3) rfl
    clear o3 r3 KT RC BC BC2 hH8 hwC hkc B2 hszC x0 x1 x2 x3 x4 y0 y1 y2 y3 B3 xx0 t1 B2C
    go_wp2_with fail
    clear q3
    go_loopw [5, 7, 44] (fun t _ i W => ∃ k : Nat, k ≤ ps.length ∧ i = .int .i64 k ∧ Hid (BO W base t (H8 ++ nbs 4 (ps.take k))) ∧ Hid (Rg base w2 W)) (fun _ _ i _ => ps.length - (intOf i).toNat)
    case atStart => exact ⟨0, by omega, rfl, HO0, R3'⟩
    case round =>
      obtain ⟨k, hk, rfl, HO, HR⟩ := hrel
      obtain ⟨ta, tc, rfl⟩ := HO.out.slice
      have G0 := hidP0 (HR.out.old HG2.out HLE1.out)
      have hszr := hidP0 (Nat.le_trans hbase HR.out.size)
      by_cases hlt : k < ps.length
      · have d1 : decide ((k : Int) < (ps.length : Int)) = true := by simp; omega
        have ilt : (k : Int) < (ps.length : Int) := by omega
        have RW := R0.out.old G0.out
        rcases RW with ⟨_, _, _, e'⟩ | ⟨b, o, cap', e, hb9, h09, hc9⟩
        · subst e'
          simp at hlt
        obtain ⟨rfl, rfl⟩ : a0 = some ⟨b, o, none⟩ ∧ ac0 = cap' := by simpa using e
        have cc := hc9 k hlt
        have hlen : (H8 ++ nbs 4 (ps.take k)).length ≤ 1000000 := by
          rw [List.length_append, nbs_len, List.length_take]
          skip
          omega
        have KN := hidP0 (spec_l12Number base 4 (ps.getD k 0) (H8 ++ nbs 4 (ps.take k)) _ wr HO.out hszr.out (by omega) hlen)
        have hsu : Hid ((H8 ++ nbs 4 (ps.take k)) ++ nb (ps.getD k 0) 4 = H8 ++ nbs 4 (ps.take (k + 1))) := by show _ = _; rw [nbs_succ _ _ _ hlt, List.append_assoc]
        obtain ⟨es, hes⟩ : ∃ z, H8 ++ nbs 4 (ps.take k) = z := ⟨_, rfl⟩
        rw [hes] at KN hsu HO
        rw [hes]
        generalize ps.getD k 0 = yy at *
        clear hc9 h09 hb9 e hlen hes HO
        go_wp2_with fail
        refine KN.out.mono ?_
        rintro e w4 ⟨v4, rfl, o4, r4⟩
        rw [hsu.out] at o4
        have O4 := hidP0 o4
        have R4 := hidP0 (HR.out.trans r4)
        clear o4 r4 KN hsu cc HR G0 hszr
        go_wp2_with fail
        exact ⟨⟨k + 1, by omega, by go_num, O4, R4⟩, by simp [intOf]; omega⟩
      · have d1 : decide ((k : Int) < (ps.length : Int)) = false := by simp; omega
        obtain rfl : k = ps.length := by omega
        have hHD : H8 ++ nbs 4 (ps.take ps.length) = headB kd N T E ps := by rw [List.take_length, headB_eq _ _ _ _ _ (by have := HOK.out.ps; omega), HH8.out]
        have HHD := hidP0 (hHD)
        obtain ⟨HD, hD⟩ : ∃ z, H8 ++ nbs 4 (ps.take ps.length) = z := ⟨_, rfl⟩
        rw [hD] at HHD HO
        rw [hD]
        have HDl : HD.length ≤ 35 := by
          rw [HHD.out, headB_len]
          have := HOK.out.ps
          omega
        have X4 := hidP0 (BX.out.old G0.out)
        have z0 := X4.out.c (i := 0) rfl
        have z5 := X4.out.c (i := 5) rfl
        clear hHD hD
        by_cases h2 : kd = 2
        · have e2 : (kd == 2) = true := beq_iff_eq.2 h2
          have HM : Hid (midB kd pl xs3 ls = nbs 3 pl) := by show _ = _; unfold midB; rw [if_pos h2]
          have hpl := HOK.out.pl (.inl h2)
          have HKE := hidP0 (HOK.out.ko (by omega) (by omega))
          have HO1 : Hid (BO wr base (.slice ta HD.length tc) (HD ++ nbs 3 (pl.take 0))) := by
            have : HD ++ nbs 3 (pl.take 0) = HD := by simp [nbs]
            rw [this]
            exact HO.out
          clear h2 HO
          go_wp2_with fail
          go_loopw [5, 9, 59] (fun t _ i W => ∃ k : Nat, k ≤ pl.length ∧ i = .int .i64 k ∧ Hid (BO W base t (HD ++ nbs 3 (pl.take k))) ∧ Hid (Rg base w2 W)) (fun _ _ i _ => pl.length - (intOf i).toNat)
          case atStart => exact ⟨0, by omega, rfl, HO1, HR⟩
          case round =>
            obtain ⟨k, hk, rfl, HO, HR⟩ := hrel
            obtain ⟨ta, tc, rfl⟩ := HO.out.slice
            have G0 := hidP0 (HR.out.old HG2.out HLE1.out)
            have hszr := hidP0 (Nat.le_trans hbase HR.out.size)
            by_cases hlt : k < pl.length
            · have d1 : decide ((k : Int) < (pl.length : Int)) = true := by simp; omega
              have ilt : (k : Int) < (pl.length : Int) := by omega
              have RW := R1.out.old G0.out
              rcases RW with ⟨_, _, _, e'⟩ | ⟨b, o, cap', e, hb9, h09, hc9⟩
              · subst e'
                simp at hlt
              obtain ⟨rfl, rfl⟩ : a1 = some ⟨b, o, none⟩ ∧ ac1 = cap' := by simpa using e
              have cc := hc9 k hlt
              have hlen : (HD ++ nbs 3 (pl.take k)).length ≤ 1000000 := by
                rw [List.length_append, nbs_len, List.length_take]
                skip
                omega
              have KN := hidP0 (spec_l12Number base 3 (pl.getD k 0) (HD ++ nbs 3 (pl.take k)) _ wr HO.out hszr.out (by omega) hlen)
              have hsu : Hid ((HD ++ nbs 3 (pl.take k)) ++ nb (pl.getD k 0) 3 = HD ++ nbs 3 (pl.take (k + 1))) := by show _ = _; rw [nbs_succ _ _ _ hlt, List.append_assoc]
              obtain ⟨es, hes⟩ : ∃ z, HD ++ nbs 3 (pl.take k) = z := ⟨_, rfl⟩
              rw [hes] at KN hsu HO
              rw [hes]
              generalize pl.getD k 0 = yy at *
              clear hc9 h09 hb9 e hlen hes HO
              go_wp2_with fail
              refine KN.out.mono ?_
              rintro e w4 ⟨v4, rfl, o4, r4⟩
              rw [hsu.out] at o4
              have O4 := hidP0 o4
              have R4 := hidP0 (HR.out.trans r4)
              clear o4 r4 KN hsu cc HR G0 hszr
              go_wp2_with fail
              exact ⟨⟨k + 1, by omega, by go_num, O4, R4⟩, by simp [intOf]; omega⟩
            · have d1 : decide ((k : Int) < (pl.length : Int)) = false := by simp; omega
              obtain rfl : k = pl.length := by omega
              have hZ : HD ++ nbs 3 (pl.take pl.length) = Z := by
                rw [HEND.out.1]
                show _ = boxB kd N T E ps pl xs3 ls kss
                unfold boxB
                rw [HHD.out, HM.out, List.take_length]
                rw [HKE.out]
                simp only [List.map_nil, List.flatten_nil, List.append_nil]
              have HOz := HO.out
              rw [hZ] at HOz ⊢
              have HOz := hidP0 HOz
              obtain ⟨n, hn⟩ : ∃ z, Z.length = z := ⟨_, rfl⟩
              rw [hn] at HOz ⊢
              clear HO hn hZ G0 hszr
              have GZ := hidP0 (HR.out.old HG2.out HLE1.out)
              go_wp2_with fail
              go_ret2
              rw [HEND.out.2]
              refine ⟨_, rfl, Old.trans HW1.out GZ.out, ?_⟩
              have h := HOz.out
              refine ⟨h.1, ?_⟩
              rcases h.2 with hn | ⟨p, cap, cur, e5, hb5, hgg, rest⟩
              · exact .inl hn
              · exact .inr ⟨p, cap, cur, e5, by omega, hgg, rest⟩
        have e2 : (kd == 2) = false := beq_eq_false_iff_ne.2 h2
        by_cases h4 : kd = 4
        · have e4 : (kd == 4) = true := beq_iff_eq.2 h4
          have HM : Hid (midB kd pl xs3 ls = nbs 1 pl) := by show _ = _; unfold midB; rw [if_neg h2, if_pos h4]
          have hpl := HOK.out.pl (.inr h4)
          have HKE := hidP0 (HOK.out.ko (by omega) (by omega))
          have HO1 : Hid (BO wr base (.slice ta HD.length tc) (HD ++ nbs 1 (pl.take 0))) := by
            have : HD ++ nbs 1 (pl.take 0) = HD := by simp [nbs]
            rw [this]
            exact HO.out
          clear h2 h4 HO
          go_wp2_with fail
          go_loopw [5, 11, 72] (fun t _ i W => ∃ k : Nat, k ≤ pl.length ∧ i = .int .i64 k ∧ Hid (BO W base t (HD ++ nbs 1 (pl.take k))) ∧ Hid (Rg base w2 W)) (fun _ _ i _ => pl.length - (intOf i).toNat)
          case atStart => exact ⟨0, by omega, rfl, HO1, HR⟩
          case round =>
            obtain ⟨k, hk, rfl, HO, HR⟩ := hrel
            obtain ⟨ta, tc, rfl⟩ := HO.out.slice
            have G0 := hidP0 (HR.out.old HG2.out HLE1.out)
            have hszr := hidP0 (Nat.le_trans hbase HR.out.size)
            by_cases hlt : k < pl.length
            · have d1 : decide ((k : Int) < (pl.length : Int)) = true := by simp; omega
              have ilt : (k : Int) < (pl.length : Int) := by omega
              have RW := R1.out.old G0.out
              rcases RW with ⟨_, _, _, e'⟩ | ⟨b, o, cap', e, hb9, h09, hc9⟩
              · subst e'
                simp at hlt
              obtain ⟨rfl, rfl⟩ : a1 = some ⟨b, o, none⟩ ∧ ac1 = cap' := by simpa using e
              have cc := hc9 k hlt
              have hlen : (HD ++ nbs 1 (pl.take k)).length ≤ 1000000 := by
                rw [List.length_append, nbs_len, List.length_take]
                omega
              have hsu : Hid ((HD ++ nbs 1 (pl.take k)) ++ [pl.getD k 0 % 256] = HD ++ nbs 1 (pl.take (k + 1))) := by show _ = _; rw [nbs_succ _ _ _ hlt, List.append_assoc, nb_one]
              obtain ⟨es, hes⟩ : ∃ z, HD ++ nbs 1 (pl.take k) = z := ⟨_, rfl⟩
              rw [hes] at hsu HO hlen
              rw [hes]
              generalize pl.getD k 0 = yy at *
              clear hc9 h09 hb9 e hes
              go_wp2_with (at_builtin; refine wpList_append_own _ rfl _ _ 54 rfl base 5 i0 (.int .u8 0) 1 1 Tryz.underlying54 hi hz0 hz1 hz2 rfl (by decide) _ _ _ rfl (BO.old HO.out ((Old.refl wr).alloc _)) ⟨wr.heap.size, 0, none⟩ 1 1 [.int .u8 (yy % 256)] rfl rfl (one_cellB _ _ _) (one_u8 _) (by unfold maxLen; omega) (by omega) (by have := hszr.out; simp; omega) ?_; intro v5 w5 o5 g5 x5; have O5 : Hid (BO w5 base v5 (es ++ [(yy % 256)])) := BO.snoc o5; have R5 : Hid (Rg base w2 w5) := (HR.out.alloc hszr.out _).trans (BO.rg (BO.old HO.out ((Old.refl wr).alloc _)) g5 (by have := hszr.out; simp; omega)); clear o5 g5 x5)
              rw [hsu.out] at O5
              exact ⟨⟨k + 1, by omega, by go_num, O5, R5⟩, by simp [intOf]; omega⟩
            · have d1 : decide ((k : Int) < (pl.length : Int)) = false := by simp; omega
              obtain rfl : k = pl.length := by omega
              have hZ : HD ++ nbs 1 (pl.take pl.length) = Z := by
                rw [HEND.out.1]
                show _ = boxB kd N T E ps pl xs3 ls kss
                unfold boxB
                rw [HHD.out, HM.out, List.take_length]
                rw [HKE.out]
                simp only [List.map_nil, List.flatten_nil, List.append_nil]
              have HOz := HO.out
              rw [hZ] at HOz ⊢
              have HOz := hidP0 HOz
              obtain ⟨n, hn⟩ : ∃ z, Z.length = z := ⟨_, rfl⟩
              rw [hn] at HOz ⊢
              clear HO hn hZ G0 hszr
              have GZ := hidP0 (HR.out.old HG2.out HLE1.out)
              go_wp2_with fail
              go_ret2
              rw [HEND.out.2]
              refine ⟨_, rfl, Old.trans HW1.out GZ.out, ?_⟩
              have h := HOz.out
              refine ⟨h.1, ?_⟩
              rcases h.2 with hn | ⟨p, cap, cur, e5, hb5, hgg, rest⟩
              · exact .inl hn
              · exact .inr ⟨p, cap, cur, e5, by omega, hgg, rest⟩
        have e4 : (kd == 4) = false := beq_eq_false_iff_ne.2 h4
        by_cases h3 : kd = 3
        · have e3 : (kd == 3) = true := beq_iff_eq.2 h3
          have HM : Hid (midB kd pl xs3 ls = cipB xs3 ls) := by show _ = _; unfold midB; rw [if_neg h2, if_neg h4, if_pos h3]
          have HKE := hidP0 (HOK.out.ko (by omega) (by omega))
          have z6 := X4.out.c (i := 6) rfl
          have H3 := hidP0 h3
          have hlD : HD.length ≤ 1000000 := by omega
          clear h2 h4 h3
          go_wp2_with (at_builtin; refine wpList_append_own _ rfl _ _ 54 rfl base 5 i0 (.int .u8 0) 1 1 Tryz.underlying54 hi hz0 hz1 hz2 rfl (by decide) _ _ _ rfl (BO.old HO.out ((Old.refl wr).alloc _)) ⟨wr.heap.size, 0, none⟩ 1 1 [.int .u8 ((xs3.length : Int) % 256)] rfl rfl (one_cellB _ _ _) (one_u8 _) (by unfold maxLen; omega) (by omega) (by have := hszr.out; simp; omega) ?_; intro v5 w5 o5 g5 x5; have O5 : Hid (BO w5 base v5 (HD ++ [((xs3.length : Int) % 256)])) := BO.snoc o5; have R5 : Hid (Rg base w2 w5) := (HR.out.alloc hszr.out _).trans (BO.rg (BO.old HO.out ((Old.refl wr).alloc _)) g5 (by have := hszr.out; simp; omega)); have X5 := hidP0 (BX.out.old (R5.out.old HG2.out HLE1.out)); have zz6 := X5.out.c (i := 6) rfl; clear o5 g5 x5)
          obtain ⟨D3, hD3⟩ : ∃ z, HD ++ [(xs3.length : Int) % 256] = z := ⟨_, rfl⟩
          have HD3 := hidP0 hD3
          have hl3 : D3.length ≤ 36 := by rw [← hD3, List.length_append]; show _ + 1 ≤ _; omega
          rw [hD3] at O5
          have HO1 : Hid (BO w5 base v5 (D3 ++ fx 0)) := by rw [HX0.out, List.append_nil]; exact O5.out
          clear hD3 O5 HO HR
          go_loopw [5, 13, 96] (fun t _ i W => ∃ k : Nat, k ≤ xs3.length ∧ i = .int .i64 k ∧ Hid (BO W base t (D3 ++ fx k)) ∧ Hid (Rg base w2 W)) (fun _ _ i _ => xs3.length - (intOf i).toNat)
          case atStart => exact ⟨0, by omega, rfl, HO1, R5⟩
          case round =>
            obtain ⟨k, hk, rfl, HO, HR⟩ := hrel
            obtain ⟨ta, tc, rfl⟩ := HO.out.slice
            have G0 := hidP0 (HR.out.old HG2.out HLE1.out)
            have hszr := hidP0 (Nat.le_trans hbase HR.out.size)
            by_cases hlt : k < xs3.length
            · have d1 : decide ((k : Int) < (xs3.length : Int)) = true := by simp; omega
              have ilt : (k : Int) < (xs3.length : Int) := by omega
              have hx3 := HOK.out.xl H3.out
              have hlk : (D3 ++ fx k).length ≤ 20000 := by
                have := HXL.out k H3.out
                have := HOK.out.xl H3.out
                rw [List.length_append]
                omega
              obtain ⟨b, o, uk, rfl, hbb, hc, hS⟩ := HC3.out k hlt
              have c0 := (G0.out.cell (p := ⟨b, o + k, none⟩) hbb).trans hc
              have hL := HOK.out.xr H3.out (xs3.getD k []) (by simp [List.getD, hlt])
              have hsu := HXS.out k hlt
              have KR := hidP0 (spec_l12Rows base (xs3.getD k []) (D3 ++ fx k) _ uk wr W1 HO.out hszr.out hS G0.out HLE1.out hL.1 hL.2 (by omega))
              rw [List.append_assoc, ← hsu] at KR
              obtain ⟨xa, xc, rfl⟩ := hS.slice
              obtain ⟨ds, hds⟩ : ∃ z, D3 ++ fx k = z := ⟨_, rfl⟩
              rw [hds] at KR
              rw [hds]
              generalize (xs3.getD k []).length = m at *
              clear hc hS G0 hL hsu hds hlk HO
              go_wp2_with fail
              refine KR.out.mono ?_
              rintro e w4 ⟨v4, rfl, o4, r4⟩
              have O4 := hidP0 o4
              have R4 := hidP0 (HR.out.trans r4)
              clear o4 r4 KR HR hszr
              go_wp2_with fail
              exact ⟨⟨k + 1, by omega, by go_num, O4, R4⟩, by simp [intOf]; omega⟩
            · have d1 : decide ((k : Int) < (xs3.length : Int)) = false := by simp; omega
              obtain rfl : k = xs3.length := by omega
              have X6 := hidP0 (BX.out.old G0.out)
              have y8 := X6.out.c (i := 8) rfl
              have hlk : (D3 ++ fx xs3.length).length ≤ 20000 := by
                have := HXL.out xs3.length H3.out
                have := HOK.out.xl H3.out
                rw [List.length_append]
                omega
              obtain ⟨D4, hD4⟩ : ∃ z, D3 ++ fx xs3.length = z := ⟨_, rfl⟩
              have HD4 := hidP0 hD4
              rw [hD4] at HO hlk
              rw [hD4]
              clear hD4 G0
              go_wp2_with (at_builtin; refine wpList_append_own _ rfl _ _ 54 rfl base 5 i0 (.int .u8 0) 1 1 Tryz.underlying54 hi hz0 hz1 hz2 rfl (by decide) _ _ _ rfl (BO.old HO.out ((Old.refl wr).alloc _)) ⟨wr.heap.size, 0, none⟩ 1 1 [.int .u8 ((ls.length : Int) % 256)] rfl rfl (one_cellB _ _ _) (one_u8 _) (by unfold maxLen; omega) (by omega) (by have := hszr.out; simp; omega) ?_; intro v5 w5 o5 g5 x5; have O5 : Hid (BO w5 base v5 (D4 ++ [((ls.length : Int) % 256)])) := BO.snoc o5; have R5 : Hid (Rg base w2 w5) := (HR.out.alloc hszr.out _).trans (BO.rg (BO.old HO.out ((Old.refl wr).alloc _)) g5 (by have := hszr.out; simp; omega)); have X7 := hidP0 (BX.out.old (R5.out.old HG2.out HLE1.out)); have yy8 := X7.out.c (i := 8) rfl; clear o5 g5 x5)
              have hll := HOK.out.ls H3.out
              obtain ⟨D5, hD5⟩ : ∃ z, D4 ++ [(ls.length : Int) % 256] = z := ⟨_, rfl⟩
              have HD5 := hidP0 hD5
              have hl5 : D5.length ≤ 20001 := by rw [← hD5, List.length_append]; show _ + 1 ≤ _; omega
              rw [hD5] at O5
              have HO1 : Hid (BO w5 base v5 (D5 ++ nbs 4 (ls.take 0))) := by
                have : D5 ++ nbs 4 (ls.take 0) = D5 := by simp [nbs]
                rw [this]
                exact O5.out
              clear hD5 O5 HO HR X6 y8 hlk
              go_loopw [5, 15, 116] (fun t _ i W => ∃ k : Nat, k ≤ ls.length ∧ i = .int .i64 k ∧ Hid (BO W base t (D5 ++ nbs 4 (ls.take k))) ∧ Hid (Rg base w2 W)) (fun _ _ i _ => ls.length - (intOf i).toNat)
              case atStart => exact ⟨0, by omega, rfl, HO1, R5⟩
              case round =>
                obtain ⟨k, hk, rfl, HO, HR⟩ := hrel
                obtain ⟨ta, tc, rfl⟩ := HO.out.slice
                have G0 := hidP0 (HR.out.old HG2.out HLE1.out)
                have hszr := hidP0 (Nat.le_trans hbase HR.out.size)
                by_cases hlt : k < ls.length
                · have d1 : decide ((k : Int) < (ls.length : Int)) = true := by simp; omega
                  have ilt : (k : Int) < (ls.length : Int) := by omega
                  have RW := R3.out.old G0.out
                  rcases RW with ⟨_, _, _, e'⟩ | ⟨b, o, cap', e, hb9, h09, hc9⟩
                  · subst e'
                    simp at hlt
                  obtain ⟨rfl, rfl⟩ : a3 = some ⟨b, o, none⟩ ∧ ac3 = cap' := by simpa using e
                  have cc := hc9 k hlt
                  have hlen : (D5 ++ nbs 4 (ls.take k)).length ≤ 1000000 := by
                    rw [List.length_append, nbs_len, List.length_take]
                    skip
                    omega
                  have KN := hidP0 (spec_l12Number base 4 (ls.getD k 0) (D5 ++ nbs 4 (ls.take k)) _ wr HO.out hszr.out (by omega) hlen)
                  have hsu : Hid ((D5 ++ nbs 4 (ls.take k)) ++ nb (ls.getD k 0) 4 = D5 ++ nbs 4 (ls.take (k + 1))) := by show _ = _; rw [nbs_succ _ _ _ hlt, List.append_assoc]
                  obtain ⟨es, hes⟩ : ∃ z, D5 ++ nbs 4 (ls.take k) = z := ⟨_, rfl⟩
                  rw [hes] at KN hsu HO
                  rw [hes]
                  generalize ls.getD k 0 = yy at *
                  clear hc9 h09 hb9 e hlen hes HO
                  go_wp2_with fail
                  refine KN.out.mono ?_
                  rintro e w4 ⟨v4, rfl, o4, r4⟩
                  rw [hsu.out] at o4
                  have O4 := hidP0 o4
                  have R4 := hidP0 (HR.out.trans r4)
                  clear o4 r4 KN hsu cc HR G0 hszr
                  go_wp2_with fail
                  exact ⟨⟨k + 1, by omega, by go_num, O4, R4⟩, by simp [intOf]; omega⟩
                · have d1 : decide ((k : Int) < (ls.length : Int)) = false := by simp; omega
                  obtain rfl : k = ls.length := by omega
                  have hZ : D5 ++ nbs 4 (ls.take ls.length) = Z := by
                    rw [HEND.out.1]
                    show _ = boxB kd N T E ps pl xs3 ls kss
                    unfold boxB
                    rw [HM.out, List.take_length]
                    rw [← HD5.out, ← HD4.out, ← HD3.out, HXE.out, HHD.out]
                    unfold cipB
                    rw [nbs_one1, nbs_one1]
                    rw [HKE.out]
                    simp only [List.map_nil, List.flatten_nil, List.append_nil, List.append_assoc]
                  have HOz := HO.out
                  rw [hZ] at HOz ⊢
                  have HOz := hidP0 HOz
                  obtain ⟨n, hn⟩ : ∃ z, Z.length = z := ⟨_, rfl⟩
                  rw [hn] at HOz ⊢
                  clear HO hn hZ G0 hszr
                  have GZ := hidP0 (HR.out.old HG2.out HLE1.out)
                  go_wp2_with fail
                  go_ret2
                  rw [HEND.out.2]
                  refine ⟨_, rfl, Old.trans HW1.out GZ.out, ?_⟩
                  have h := HOz.out
                  refine ⟨h.1, ?_⟩
                  rcases h.2 with hn | ⟨p, cap, cur, e5, hb5, hgg, rest⟩
                  · exact .inl hn
                  · exact .inr ⟨p, cap, cur, e5, by omega, hgg, rest⟩
        have e3 : (kd == 3) = false := beq_eq_false_iff_ne.2 h3
        have HM : Hid (midB kd pl xs3 ls = []) := by show _ = _; unfold midB; rw [if_neg h2, if_neg h4, if_neg h3]
        have hkl6 := HOK.out.kl
        have z9 := X4.out.c (i := 9) rfl
        have HO1 : Hid (BO wr base (.slice ta HD.length tc) (HD ++ fl 0)) := by rw [HF0.out, List.append_nil]; exact HO.out
        by_cases h5 : kd = 5
        · have e5 : (kd == 5) = true := beq_iff_eq.2 h5
          clear h2 h4 h3 h5 HO
          go_wp2_with fail
          go_loopw [5, 17, 130] (fun t _ i W => ∃ k : Nat, k ≤ kss.length ∧ i = .int .i64 k ∧ Hid (BO W base t (HD ++ fl k)) ∧ Hid (Rg base w2 W)) (fun _ _ i _ => kss.length - (intOf i).toNat)
          case atStart => exact ⟨0, by omega, rfl, HO1, HR⟩
          case round =>
            obtain ⟨k, hk, rfl, HO, HR⟩ := hrel
            obtain ⟨ta, tc, rfl⟩ := HO.out.slice
            have G0 := hidP0 (HR.out.old HG2.out HLE1.out)
            have hszr := hidP0 (Nat.le_trans hbase HR.out.size)
            by_cases hlt : k < kss.length
            · have d1 : decide ((k : Int) < (kss.length : Int)) = true := by simp; omega
              have ilt : (k : Int) < (kss.length : Int) := by omega
              obtain ⟨b, o, ua, va, rfl, hbb, hc0, hc1, hS0, hS1⟩ := HC.out k hlt
              have c0 := (G0.out.cell (p := ⟨b, o + k * 2, none⟩) hbb).trans hc0
              have c1 := (G0.out.cell (p := ⟨b, o + k * 2 + 1, none⟩) hbb).trans hc1
              obtain ⟨ya, yc, rfl⟩ := hS0.slice
              obtain ⟨za, zc, rfl⟩ := hS1.slice
              have hkr := HOK.out.kr (pk kss k) (by simp [pk, List.getD, hlt])
              have hlk : (HD ++ fl k).length ≤ 10000 := by
                have h1 := HFL.out k
                rw [List.length_append]
                omega
              have hsu := HFS.out k hlt
              have hsz := hszr.out
              generalize (pk kss k).1 = PA at *
              generalize (pk kss k).2 = PB at *
              obtain ⟨ds, hds⟩ : ∃ z, HD ++ fl k = z := ⟨_, rfl⟩
              rw [hds] at HO hlk
              rw [hds]
              have HN2 : Hid (∀ W t, BO W base t ((ds ++ rwsB PA) ++ rwsB PB) → BO W base t (HD ++ fl (k + 1))) := fun W t h => by
                rw [hsu, ← List.append_assoc, hds]
                rw [List.append_assoc] at h
                exact h
              obtain ⟨wP, hwP⟩ : ∃ z, wr.alloc (.cells #[.slice ya PA.length yc, .slice za PB.length zc] 77) = z := ⟨_, rfl⟩
              have OP : Hid (Old wr wP) := by rw [← hwP]; exact (Old.refl wr).alloc _
              have BP : Hid (Bk wP wr.heap.size #[.slice ya PA.length yc, .slice za PB.length zc] 77) := by rw [← hwP]; exact Bk.new' wr _ _ rfl
              have hszP : base ≤ wP.heap.size := Nat.le_trans hsz OP.out.size
              have HOP := hidP0 (HO.out.old OP.out)
              have RP := hidP0 (HR.out.trans (Rg.of_old OP.out hsz))
              have GP := hidP0 (Old.trans G0.out OP.out)
              have KR1 := hidP0 (fun W (g : Old wP W) => spec_l12Rows base PA ds (.slice ta ds.length tc) (.slice ya PA.length yc) W W1 (HOP.out.old g) (Nat.le_trans hszP g.size) hS0 (Old.trans GP.out g) HLE1.out hkr.1.1 hkr.1.2 (by omega))
              have KR2 := hidP0 (fun W vv (g : Rg base wP W) (h : BO W base vv (ds ++ rwsB PA)) => spec_l12Rows base PB (ds ++ rwsB PA) vv (.slice za PB.length zc) W W1 h (Nat.le_trans hszP g.size) hS1 (g.old GP.out HLE1.out) HLE1.out hkr.2.1 hkr.2.2 (by rw [List.length_append]; have := rwsB_le PA hkr.1.1 hkr.1.2; omega))
              obtain ⟨kb, hkb⟩ : ∃ z, wr.heap.size = z := ⟨_, rfl⟩
              rw [hkb] at BP
              have HAS : Hid (∀ W', Rg base wP W' → (W'.cell? ⟨kb, 0, none⟩ = some (.slice ya PA.length yc) ∧ W'.cell? ⟨kb, 1, none⟩ = some (.slice za PB.length zc))) := fun W' r => ⟨(r.bk BP.out (by decide)).c (i := 0) rfl, (r.bk BP.out (by decide)).c (i := 1) rfl⟩
              have HZP := hidP0 hszP
              have hp0 := HAS.out wP (Rg.refl _ _)
              obtain ⟨hp0, hp1⟩ := hp0
              clear hc0 hc1 hS0 hS1 G0 hkr hlk hsu hds HO HR hsz OP hszP HOP GP hszr
              go_wp2_with fail
              go_region_held3 (fun W' => W'.cell? ⟨kb, 0, none⟩ = some (.slice ya PA.length yc) ∧ W'.cell? ⟨kb, 1, none⟩ = some (.slice za PB.length zc)) (first | with_reducible exact HAS.out _ R7.out | with_reducible exact HAS.out _ R6.out | with_reducible exact HAS.out _ (Rg.of_old (Below.drew (Old.refl wP)) HZP.out) | with_reducible exact HAS.out _ (Rg.refl base wP) | fail) (first
                | (go_at_call 65; refine (KR2.out _ _ R6.out O6.out).mono ?_; rintro e w7 ⟨v7, rfl, o7, r7⟩; have O7 := hidP0 (HN2.out _ _ o7); have R7 := hidP0 (R6.out.trans r7); clear o7 r7)
                | (go_at_call 65; refine (KR1.out _ (Below.drew (Old.refl wP))).mono ?_; rintro e w6 ⟨v6, rfl, o6, r6⟩; have O6 := hidP0 o6; have R6 := hidP0 ((Rg.of_old (Below.drew (Old.refl wP)) HZP.out).trans r6); clear o6 r6)
                | fail)
              have R8 := hidP0 (RP.out.trans R7.out)
              clear HAS KR1 KR2 RP BP hp0 hp1 HN2 O6 R6 R7
              go_wp2_with fail
              exact ⟨⟨k + 1, by omega, by go_num, O7, R8⟩, by simp [intOf]; omega⟩
            · have d1 : decide ((k : Int) < (kss.length : Int)) = false := by simp; omega
              obtain rfl : k = kss.length := by omega
              have hZ : HD ++ fl kss.length = Z := by
                rw [HEND.out.1]
                show _ = boxB kd N T E ps pl xs3 ls kss
                unfold boxB
                rw [HHD.out, HM.out, List.append_nil, HFE.out]
              have HOz := HO.out
              rw [hZ] at HOz ⊢
              have HOz := hidP0 HOz
              obtain ⟨n, hn⟩ : ∃ z, Z.length = z := ⟨_, rfl⟩
              rw [hn] at HOz ⊢
              clear HO hn hZ G0 hszr
              have GZ := hidP0 (HR.out.old HG2.out HLE1.out)
              go_wp2_with fail
              go_ret2
              rw [HEND.out.2]
              refine ⟨_, rfl, Old.trans HW1.out GZ.out, ?_⟩
              have h := HOz.out
              refine ⟨h.1, ?_⟩
              rcases h.2 with hn | ⟨p, cap, cur, e5, hb5, hgg, rest⟩
              · exact .inl hn
              · exact .inr ⟨p, cap, cur, e5, by omega, hgg, rest⟩
        have e5 : (kd == 5) = false := beq_eq_false_iff_ne.2 h5
        by_cases h6 : kd = 6
        · have e6 : (kd == 6) = true := beq_iff_eq.2 h6
          clear h2 h4 h3 h5 h6 HO
          go_wp2_with fail
          go_loopw [5, 17, 130] (fun t _ i W => ∃ k : Nat, k ≤ kss.length ∧ i = .int .i64 k ∧ Hid (BO W base t (HD ++ fl k)) ∧ Hid (Rg base w2 W)) (fun _ _ i _ => kss.length - (intOf i).toNat)
          case atStart => exact ⟨0, by omega, rfl, HO1, HR⟩
          case round =>
            obtain ⟨k, hk, rfl, HO, HR⟩ := hrel
            obtain ⟨ta, tc, rfl⟩ := HO.out.slice
            have G0 := hidP0 (HR.out.old HG2.out HLE1.out)
            have hszr := hidP0 (Nat.le_trans hbase HR.out.size)
            by_cases hlt : k < kss.length
            · have d1 : decide ((k : Int) < (kss.length : Int)) = true := by simp; omega
              have ilt : (k : Int) < (kss.length : Int) := by omega
              obtain ⟨b, o, ua, va, rfl, hbb, hc0, hc1, hS0, hS1⟩ := HC.out k hlt
              have c0 := (G0.out.cell (p := ⟨b, o + k * 2, none⟩) hbb).trans hc0
              have c1 := (G0.out.cell (p := ⟨b, o + k * 2 + 1, none⟩) hbb).trans hc1
              obtain ⟨ya, yc, rfl⟩ := hS0.slice
              obtain ⟨za, zc, rfl⟩ := hS1.slice
              have hkr := HOK.out.kr (pk kss k) (by simp [pk, List.getD, hlt])
              have hlk : (HD ++ fl k).length ≤ 10000 := by
                have h1 := HFL.out k
                rw [List.length_append]
                omega
              have hsu := HFS.out k hlt
              have hsz := hszr.out
              generalize (pk kss k).1 = PA at *
              generalize (pk kss k).2 = PB at *
              obtain ⟨ds, hds⟩ : ∃ z, HD ++ fl k = z := ⟨_, rfl⟩
              rw [hds] at HO hlk
              rw [hds]
              have HN2 : Hid (∀ W t, BO W base t ((ds ++ rwsB PA) ++ rwsB PB) → BO W base t (HD ++ fl (k + 1))) := fun W t h => by
                rw [hsu, ← List.append_assoc, hds]
                rw [List.append_assoc] at h
                exact h
              obtain ⟨wP, hwP⟩ : ∃ z, wr.alloc (.cells #[.slice ya PA.length yc, .slice za PB.length zc] 77) = z := ⟨_, rfl⟩
              have OP : Hid (Old wr wP) := by rw [← hwP]; exact (Old.refl wr).alloc _
              have BP : Hid (Bk wP wr.heap.size #[.slice ya PA.length yc, .slice za PB.length zc] 77) := by rw [← hwP]; exact Bk.new' wr _ _ rfl
              have hszP : base ≤ wP.heap.size := Nat.le_trans hsz OP.out.size
              have HOP := hidP0 (HO.out.old OP.out)
              have RP := hidP0 (HR.out.trans (Rg.of_old OP.out hsz))
              have GP := hidP0 (Old.trans G0.out OP.out)
              have KR1 := hidP0 (fun W (g : Old wP W) => spec_l12Rows base PA ds (.slice ta ds.length tc) (.slice ya PA.length yc) W W1 (HOP.out.old g) (Nat.le_trans hszP g.size) hS0 (Old.trans GP.out g) HLE1.out hkr.1.1 hkr.1.2 (by omega))
              have KR2 := hidP0 (fun W vv (g : Rg base wP W) (h : BO W base vv (ds ++ rwsB PA)) => spec_l12Rows base PB (ds ++ rwsB PA) vv (.slice za PB.length zc) W W1 h (Nat.le_trans hszP g.size) hS1 (g.old GP.out HLE1.out) HLE1.out hkr.2.1 hkr.2.2 (by rw [List.length_append]; have := rwsB_le PA hkr.1.1 hkr.1.2; omega))
              obtain ⟨kb, hkb⟩ : ∃ z, wr.heap.size = z := ⟨_, rfl⟩
              rw [hkb] at BP
              have HAS : Hid (∀ W', Rg base wP W' → (W'.cell? ⟨kb, 0, none⟩ = some (.slice ya PA.length yc) ∧ W'.cell? ⟨kb, 1, none⟩ = some (.slice za PB.length zc))) := fun W' r => ⟨(r.bk BP.out (by decide)).c (i := 0) rfl, (r.bk BP.out (by decide)).c (i := 1) rfl⟩
              have HZP := hidP0 hszP
              have hp0 := HAS.out wP (Rg.refl _ _)
              obtain ⟨hp0, hp1⟩ := hp0
              clear hc0 hc1 hS0 hS1 G0 hkr hlk hsu hds HO HR hsz OP hszP HOP GP hszr
              go_wp2_with fail
              go_region_held3 (fun W' => W'.cell? ⟨kb, 0, none⟩ = some (.slice ya PA.length yc) ∧ W'.cell? ⟨kb, 1, none⟩ = some (.slice za PB.length zc)) (first | with_reducible exact HAS.out _ R7.out | with_reducible exact HAS.out _ R6.out | with_reducible exact HAS.out _ (Rg.of_old (Below.drew (Old.refl wP)) HZP.out) | with_reducible exact HAS.out _ (Rg.refl base wP) | fail) (first
                | (go_at_call 65; refine (KR2.out _ _ R6.out O6.out).mono ?_; rintro e w7 ⟨v7, rfl, o7, r7⟩; have O7 := hidP0 (HN2.out _ _ o7); have R7 := hidP0 (R6.out.trans r7); clear o7 r7)
                | (go_at_call 65; refine (KR1.out _ (Below.drew (Old.refl wP))).mono ?_; rintro e w6 ⟨v6, rfl, o6, r6⟩; have O6 := hidP0 o6; have R6 := hidP0 ((Rg.of_old (Below.drew (Old.refl wP)) HZP.out).trans r6); clear o6 r6)
                | fail)
              have R8 := hidP0 (RP.out.trans R7.out)
              clear HAS KR1 KR2 RP BP hp0 hp1 HN2 O6 R6 R7
              go_wp2_with fail
              exact ⟨⟨k + 1, by omega, by go_num, O7, R8⟩, by simp [intOf]; omega⟩
            · have d1 : decide ((k : Int) < (kss.length : Int)) = false := by simp; omega
              obtain rfl : k = kss.length := by omega
              have hZ : HD ++ fl kss.length = Z := by
                rw [HEND.out.1]
                show _ = boxB kd N T E ps pl xs3 ls kss
                unfold boxB
                rw [HHD.out, HM.out, List.append_nil, HFE.out]
              have HOz := HO.out
              rw [hZ] at HOz ⊢
              have HOz := hidP0 HOz
              obtain ⟨n, hn⟩ : ∃ z, Z.length = z := ⟨_, rfl⟩
              rw [hn] at HOz ⊢
              clear HO hn hZ G0 hszr
              have GZ := hidP0 (HR.out.old HG2.out HLE1.out)
              go_wp2_with fail
              go_ret2
              rw [HEND.out.2]
              refine ⟨_, rfl, Old.trans HW1.out GZ.out, ?_⟩
              have h := HOz.out
              refine ⟨h.1, ?_⟩
              rcases h.2 with hn | ⟨p, cap, cur, e5, hb5, hgg, rest⟩
              · exact .inl hn
              · exact .inr ⟨p, cap, cur, e5, by omega, hgg, rest⟩
        have e6 : (kd == 6) = false := beq_eq_false_iff_ne.2 h6
        have HKE := hidP0 (HOK.out.ko h5 h6)
        have hZ : HD = Z := by
          rw [HEND.out.1]
          show _ = boxB kd N T E ps pl xs3 ls kss
          unfold boxB
          rw [HHD.out, HM.out]
          rw [HKE.out]
          simp only [List.map_nil, List.flatten_nil, List.append_nil]
        have HOz := HO.out
        rw [hZ] at HOz ⊢
        have HOz := hidP0 HOz
        obtain ⟨n, hn⟩ : ∃ z, Z.length = z := ⟨_, rfl⟩
        rw [hn] at HOz ⊢
        clear HO hn hZ G0 hszr HO1 h2 h3 h4 h5 h6
        have GZ := hidP0 (HR.out.old HG2.out HLE1.out)
        go_wp2_with fail
        go_ret2
        rw [HEND.out.2]
        refine ⟨_, rfl, Old.trans HW1.out GZ.out, ?_⟩
        have h := HOz.out
        refine ⟨h.1, ?_⟩
        rcases h.2 with hn | ⟨p, cap, cur, e5, hb5, hgg, rest⟩
        · exact .inl hn
        · exact .inr ⟨p, cap, cur, e5, by omega, hgg, rest⟩
end Go.Proofs.YtanijpekdnkicaaGreatDoor
/- Proved: the statement on WriteBox at every argument, in a world in which the two tables are laid. -/
namespace Go.Proofs.YtanijpekdnkicaaGreatDoor
open Go.ChangeShapes Go.WideShapes Go.ChangeAt Go.RowKit
set_option linter.unusedVariables false
set_option linter.unusedSimpArgs false
theorem shape_XBy (kd N T E : Int) (ps pl : List Int) (xs3 : List (List (List Int))) (sg : Bool) (ls : List Int) (kss : List PrV) (W : World) (lo hi : Nat) (g : Array Value) (h : XBx kd N T E ps pl xs3 sg ls kss W lo hi g) : ∃ (a0 : Option Addr) (ac0 : Nat) (a1 : Option Addr) (ac1 : Nat) (a2 : Option Addr) (ac2 : Nat) (a3 : Option Addr) (ac3 : Nat) (a4 : Option Addr) (ac4 : Nat), g = #[.int .i64 kd, .int .i64 N, .int .i64 T, .int .i64 E, .slice a0 ps.length ac0, .slice a1 pl.length ac1, .slice a2 xs3.length ac2, .bool sg, .slice a3 ls.length ac3, .slice a4 kss.length ac4] := by
  obtain ⟨a0, c0, a1, c1, a2, c2, a3, c3, a4, c4, m1, m2, m3, m4, e, _⟩ := h
  exact ⟨a0, c0, a1, c1, a2, c2, a3, c3, a4, c4, e⟩
theorem hi_XBx (kd N T E : Int) (ps pl : List Int) (xs3 : List (List (List Int))) (sg : Bool) (ls : List Int) (kss : List PrV) {W : World} {lo hi : Nat} {g : Array Value} (h : XBx kd N T E ps pl xs3 sg ls kss W lo hi g) : hi ≤ W.heap.size := by
  obtain ⟨a0, c0, a1, c1, a2, c2, a3, c3, a4, c4, m1, m2, m3, m4, e, _, _, _, _, _, h4⟩ := h
  exact h4.1
set_option maxRecDepth 100000 in
theorem WriteBox_any (kd N T E : Int) (ps pl : List Int) (xs3 : List (List (List Int))) (sg : Bool) (ls : List Int) (kss : List PrV) (v : Value) (w : World) (hv : BoxW w v kd N T E ps pl xs3 sg ls kss) (hl : BoxLe 9223372036854775807 ps pl xs3 ls kss) (hx : ∀ x ∈ ps, -9223372036854775808 ≤ x ∧ x ≤ 9223372036854775807) (hP : PrsW w) (hT : TabW w) :
    Calls Tryz.prog 5 #[v] w fun e w' => e = .returned (.bool true) ∧ Old w w' := by
  have HV := hv
  obtain ⟨a0, c0, a1, c1, a2, c2, a3, c3, a4, c4, rfl, _⟩ := hv
  obtain ⟨Z, ok, hy, hn, hz⟩ : ∃ (Z : List Int) (ok : Bool), (bxB kd N T E ps pl xs3 sg ls kss = true → Z = boxB kd N T E ps pl xs3 ls kss ∧ ok = true) ∧ (bxB kd N T E ps pl xs3 sg ls kss = false → Z = [] ∧ ok = false) ∧ Z.length ≤ 6000 := by
    cases h : bxB kd N T E ps pl xs3 sg ls kss
    · exact ⟨[], false, (fun h => by cases h), (fun _ => ⟨rfl, rfl⟩), by simp⟩
    · exact ⟨_, true, (fun _ => ⟨rfl, rfl⟩), (fun h => by cases h), boxB_le kd N T E ps pl xs3 sg ls kss (bx_ok kd N T E ps pl xs3 sg ls kss h)⟩
  refine law9_WriteBox w kd N T E ps.length pl.length xs3.length ls.length kss.length sg a0 c0 a1 c1 a2 c2 a3 c3 a4 c4 Z.length ok (BxOff ps pl xs3 ls kss)
    (fun W g => szBox_off kd N T E ps pl xs3 sg ls kss _ 1048576 W (HV.old g) hl (by omega) (by omega))
    (XBx kd N T E ps pl xs3 sg ls kss) (far_XBx kd N T E ps pl xs3 sg ls kss) (shape_XBy kd N T E ps pl xs3 sg ls kss) (fun hb W g => toBox_any kd N T E ps pl xs3 sg ls kss _ W (HV.old g) hb.1) (fun hb W lo hi g lo' hi' g' k k' => eqBox_yes kd N T E ps pl xs3 sg ls kss _ _ W k.boxW k'.boxW hb.1)
    (1 + bxN ps pl xs3 ls kss) (by unfold bxN; omega) (fun hb W lo hi g k => markBox_any kd N T E ps pl xs3 sg ls kss 1 W lo hi g k (hi_XBx kd N T E ps pl xs3 sg ls kss k) hb (by omega) (by omega))
    (YY Z) (far_YY Z) shape_YY (YY Z) (far_YY Z) shape_YY (YYM 1 Z.length) (far_YYM 1 Z.length) shape_YYM
    (fun hb W lo hi g k q => (spec_WriteBox kd N T E ps pl xs3 sg ls kss _ W k.boxQ hb.1 hx Z ok hy hn).mono fun e w' h => ?_) (fun hb W lo hi g k q => (impl_WriteBox kd N T E ps pl xs3 sg ls kss lo hi g W (hP.old q) (hT.old q) k (hi_XBx kd N T E ps pl xs3 sg ls kss k) hb.1 Z ok hy hn).mono fun e w' h => ?_)
    (fun hb W lo hi p lo' hi' p' k k' => yy_eq Z W lo hi p lo' hi' p' k k' (by omega))
    (1 + Z.length) (by omega) (fun hb W lo hi p k => yy_mark Z 1 W lo hi p k (by omega) (by omega) (by omega))
    (fun hb W lo hi p k => yym_held Z.length 1 W lo hi p k (by omega) (by omega) (by omega))
  · obtain ⟨v', e1, g1, o1⟩ := h
    exact ⟨v', e1, g1, yy_of o1⟩
  · obtain ⟨v', e1, g1, o1⟩ := h
    exact ⟨v', e1, g1, yy_of o1⟩
end Go.Proofs.YtanijpekdnkicaaGreatDoor
