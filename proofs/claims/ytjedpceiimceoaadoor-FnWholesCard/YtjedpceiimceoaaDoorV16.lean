/- Proved: several texts in one: what each proves is said ahead of it. -/
import Derived.Test.YtjedpceiimceoaaDoorWtd
import Derived.Test.YtjedpceiimceoaaDoorV15
import Derived.Test.YtjedpceiimceoaaDoorV12
import Derived.Test.YtjedpceiimceoaaDoorV13
import Derived.Test.YtjedpceiimceoaaDoorV02
import Derived.Test.YtjedpceiimceoaaDoorSzIn
import Derived.Deep.RegionLawGrows
/- Proved: the contract of the program's WholeText: a sign and the digits. -/
namespace Go.Proofs.YtjedpceiimceoaaDoor
open Go.ChangeShapes Go.WideShapes Go.ChangeAt Go.RowKit
open M2
set_option linter.unusedVariables false
set_option linter.unusedSimpArgs false
theorem dec_len_cnt {n : Nat} (h : cnt n ≤ 79) : (Lib.decDigits n).length ≤ 1001 := by
  refine dec_len 1000 n (Nat.lt_of_lt_of_le (cnt_lt n) ?_)
  refine Nat.le_trans (Nat.pow_le_pow_right (by decide) h) ?_
  decide +kernel
structure TxI (n : Bool) (xs : List Int) (T : ByteArray) : Prop where
  bad : ¬ Good n xs → T = ⟨#[]⟩
  pos : Good n xs → n = false → T = ⟨(Lib.decDigits (val (nat xs))).toArray⟩
  neg : Good n xs → n = true → T = ⟨(45 :: Lib.decDigits (val (nat xs))).toArray⟩
theorem txI_any (n : Bool) (xs : List Int) : ∃ T, TxI n xs T := by
  by_cases h : Good n xs
  · cases n with
    | false => exact ⟨_, fun g => absurd h g, fun _ _ => rfl, (fun _ e => by cases e)⟩
    | true => exact ⟨_, fun g => absurd h g, (fun _ e => by cases e), fun _ _ => rfl⟩
  · exact ⟨_, fun _ => rfl, fun g => absurd g h, fun g => absurd g h⟩
set_option maxRecDepth 100000 in
set_option maxHeartbeats 4000000 in
theorem impl_WholeText (n : Bool) (xs : List Int) (v : Value) (w : World) (T : ByteArray) (hv : Row w v xs) (la : xs.length ≤ 1048576) (hT : TabP w) (hX : TxI n xs T) :
    Calls Tryd.prog 13 #[.agg #[.bool n, v]] w fun e w' => e = .returned (.string T) ∧ Old w w' := by
  have HV : Hid (Row w v xs) := hv
  obtain ⟨a0, cap0, rfl⟩ := hv.slice
  clear hv
  have HT : Hid (TabP w) := hT
  clear hT
  have HA : Hid (Old w (w.alloc (.cells #[.bool n, .slice a0 xs.length cap0] 25))) := (Old.refl w).alloc _
  have SA0 : Hid (StW (w.alloc (.cells #[.bool n, .slice a0 xs.length cap0] 25)) w.heap.size (.bool n) (.slice a0 xs.length cap0) 25) := StW.new w _ _ _
  by_cases hga : Good n xs
  · have cga := fun W (h : Row W (.slice a0 xs.length cap0) xs) => good_impl n xs _ W h la
    rw [decide_eq_true hga] at cga
    obtain ⟨ex, gx, lx⟩ := good_gw hga
    have csz := fun W (h : Row W (.slice a0 xs.length cap0) (toI (nat xs))) => sizeOf_sz n (nat xs) _ W h gx.1 (by omega)
    have hcn : cnt (val (nat xs)) ≤ 79 := by rw [cnt_nrm gx.1]; omega
    have cdg := fun W (h : TabP W) => digits_sz (val (nat xs)) W hcn h (Nat.le_trans (dec_len_cnt hcn) (by omega))
    have HL : Hid ((Lib.decDigits (val (nat xs))).length ≤ 1001) := dec_len_cnt hcn
    have HGA := Lib.hid cga
    have HSZ := Lib.hid csz
    have HDG := Lib.hid cdg
    have HPO : Hid (n = false → T = ⟨(Lib.decDigits (val (nat xs))).toArray⟩) := hX.pos hga
    have HNE : Hid (n = true → T = ⟨(45 :: Lib.decDigits (val (nat xs))).toArray⟩) := hX.neg hga
    have HV2 : Hid (Row w (.slice a0 xs.length cap0) (toI (nat xs))) := by show Row _ _ _; rw [ex]; exact HV.out
    clear hX hga cga ex gx lx csz hcn cdg
    go_enter Tryd.func13, Tryd.ntmps13
    go_wp2_with fail
    refine (HGA.out _ (HV.out.old HA.out)).mono ?_
    rintro e w1 ⟨rfl, g1⟩
    have HG1 : Hid (Old w w1) := Old.trans HA.out g1
    have S1 : Hid (StW w1 w.heap.size (.bool n) (.slice a0 xs.length cap0) 25) := SA0.out.old g1
    have z0 := S1.out.c0
    have z1 := S1.out.c1
    clear g1
    go_wp2_with fail
    refine (HSZ.out _ (HV2.out.old HG1.out)).mono ?_
    rintro e w2 ⟨rfl, g2⟩
    have HG2 : Hid (Old w w2) := Old.trans HG1.out g2
    have S2 : Hid (StW w2 w.heap.size (.bool n) (.slice a0 xs.length cap0) 25) := S1.out.old g2
    clear g2 z0 z1
    go_wp2_with fail
    refine (HDG.out _ (HT.out.old HG2.out)).mono ?_
    rintro e w3 ⟨rfl, g3⟩
    have HG3 : Hid (Old w w3) := Old.trans HG2.out g3
    have S3 : Hid (StW w3 w.heap.size (.bool n) (.slice a0 xs.length cap0) 25) := S2.out.old g3
    have z0 := S3.out.c0
    have z1 := S3.out.c1
    obtain ⟨D, hD⟩ : ∃ D : ByteArray, ⟨(Lib.decDigits (val (nat xs))).toArray⟩ = D := ⟨_, rfl⟩
    have hsD : D.size ≤ 1001 := by rw [← hD, ba_size]; exact HL.out
    rw [hD]
    have HP2 : Hid (n = false → T = D) := fun h => by rw [← hD]; exact HPO.out h
    have HN2 : Hid (n = true → (⟨#[45]⟩ : ByteArray) ++ D = T) := fun h => by rw [HNE.out h, ← hD]; exact ba_app [45] _
    clear g3 hD HPO HNE
    cases n with
    | false =>
      have hE := HP2.out rfl
      have HEE : Hid (T = D) := hE
      clear hE HP2 HN2
      go_wp2_with fail
      go_ret
      exact ⟨by rw [HEE.out]; rfl, HG3.out⟩
    | true =>
      have hE := HN2.out rfl
      have hs : ((⟨#[45]⟩ : ByteArray).size : Int) + (D.size : Int) ≤ 9223372036854775807 := by rw [show (⟨#[45]⟩ : ByteArray).size = 1 from rfl]; omega
      have hs1 : (1 : Int) + (D.size : Int) ≤ 9223372036854775807 := by omega
      clear HP2 HN2
      go_wp2_with fail
      go_ret
      exact ⟨rfl, HG3.out⟩
  · have cga := fun W (h : Row W (.slice a0 xs.length cap0) xs) => good_impl n xs _ W h la
    rw [decide_eq_false hga] at cga
    have HGA := Lib.hid cga
    have HE : Hid (T = ⟨#[]⟩) := hX.bad hga
    clear hX hga cga
    go_enter Tryd.func13, Tryd.ntmps13
    go_wp2_with fail
    refine (HGA.out _ (HV.out.old HA.out)).mono ?_
    rintro e w1 ⟨rfl, g1⟩
    have HG1 : Hid (Old w w1) := Old.trans HA.out g1
    clear g1
    go_wp2_with fail
    go_ret
    exact ⟨by rw [HE.out]; rfl, HG1.out⟩
end Go.Proofs.YtjedpceiimceoaaDoor
/- Proved: the contract of the model's WholeText: a sign and the digits. -/
namespace Go.Proofs.YtjedpceiimceoaaDoor
open Go.ChangeShapes Go.WideShapes Go.ChangeAt Go.RowKit
open M2
set_option linter.unusedVariables false
set_option linter.unusedSimpArgs false
def RwT (n : Nat) (W : World) (v : Value) : Prop := ∃ a c, v = .slice a (dig n).length c ∧ Row W (.slice a (dig n).length c) (toI (dig n))
theorem RwT.old {n : Nat} {W W' : World} {v : Value} (h : RwT n W v) (q : Old W W') : RwT n W' v := by
  obtain ⟨a, c, e, r⟩ := h
  exact ⟨a, c, e, r.old q⟩
theorem RwT.row {n : Nat} {W : World} {v : Value} (h : RwT n W v) : Row W v (toI (dig n)) := by
  obtain ⟨a, c, rfl, r⟩ := h
  exact r
theorem RwT.of {n : Nat} {W : World} {v : Value} (h : Row W v (toI (dig n))) : RwT n W v := by
  obtain ⟨a, c, rfl⟩ := h.sliceN
  exact ⟨a, c, rfl, h⟩
theorem rwT_seven (W : World) : Row (W.alloc (.cells #[.int .i64 10000000] 3)) (.slice (some ⟨W.heap.size, 0, none⟩) 1 1) (toI (dig 10000000)) := by
  have e : dig 10000000 = [10000000] := by decide +kernel
  rw [e, show toI [10000000] = [(10000000 : Int)] from rfl]
  refine .inr ⟨W.heap.size, 0, 1, rfl, by simp, by simp, fun j hj => ?_⟩
  obtain rfl : j = 0 := by simpa using hj
  simp [cell_at]
theorem div_t (a : Nat) (v u : Value) (w : World) (h1 : RwT a w v) (h2 : Row w u (toI (dig 10000000))) (ha : cnt a ≤ 1000) : Calls Tryd.prog 39 #[v, u] w fun e w' => ∃ v1 v2, e = .returned (.tuple #[v1, v2]) ∧ Old w w' ∧ RwT (a / 10000000) w' v1 ∧ RwT (a % 10000000) w' v2 :=
  (div_any (dig a) (dig 10000000) v u w h1.row h2 (dig_lim _) (dig_nrm _) (fun e => by have := val_dig 10000000; rw [e] at this; simp [val] at this) (by unfold cnt at ha; omega) (by decide +kernel)).mono fun e w' h => by
    obtain ⟨v1, v2, e1, g, o1, o2⟩ := h
    rw [val_dig, val_dig] at o1 o2
    exact ⟨v1, v2, e1, g, RwT.of (Own.row o1), RwT.of (Own.row o2)⟩
theorem word_t (a : Nat) (v : Value) (w : World) (h1 : RwT a w v) (ha : a < 268435456) : Calls Tryd.prog 41 #[v, .int .i64 268435456] w fun e w' => e = .returned (.int .i64 (a : Int)) ∧ Old w w' := by
  have hc : cnt a ≤ 1 := cnt_le (by rw [Nat.pow_one]; exact ha)
  have := word_any (dig a) 268435456 v w h1.row (dig_lim _) (by unfold cnt at hc; omega) (by omega) (by omega)
  rw [val_dig, Nat.mod_eq_of_lt ha] at this
  exact this
set_option maxRecDepth 100000 in
set_option maxHeartbeats 4000000 in
theorem spec_WholeText_good (n : Bool) (N : Nat) (a0 : Option Addr) (cap0 : Nat) (w : World) (T : ByteArray) (hN : 0 < N) (hc : cnt N ≤ 79) (hv : RwT N w (.slice a0 (dig N).length cap0))
    (KG : ∀ W, Old w W → Calls Tryd.prog 38 #[.agg #[.bool n, .slice a0 (dig N).length cap0]] W fun e w' => e = .returned (.bool true) ∧ Old W w')
    (hp : n = false → T = ⟨(Lib.decDigits N).toArray⟩) (hm : n = true → T = ⟨(45 :: Lib.decDigits N).toArray⟩) :
    Calls Tryd.prog 14 #[.agg #[.bool n, .slice a0 (dig N).length cap0]] w fun e w' => e = .returned (.string T) ∧ Old w w' := by
  have HA : Hid (Old w (w.alloc (.cells #[.bool n, .slice a0 (dig N).length cap0] 25))) := (Old.refl w).alloc _
  have SA0 : Hid (StW (w.alloc (.cells #[.bool n, .slice a0 (dig N).length cap0] 25)) w.heap.size (.bool n) (.slice a0 (dig N).length cap0) 25) := StW.new w _ _ _
  have HV := Lib.hid hv
  have HPO := Lib.hid hp
  have HNE := Lib.hid hm
  have HL : Hid ((Lib.decDigits N).length ≤ 1001) := dec_len_cnt hc
  have hl0 : 0 < (dig N).length := cnt_pos (show N ≠ 0 by omega)
  have d0 : decide (((dig N).length : Int) = 0) = false := decide_eq_false (by omega)
  have d1 : (((dig N).length : Int) == 0) = false := by rw [beq_eq_false_iff_ne]; omega
  clear hv hp hm
  go_enter Tryd.func14, Tryd.ntmps14
  go_wp2_with fail
  refine (KG _ HA.out).mono ?_
  rintro e w1 ⟨rfl, g1⟩
  have HG1 : Hid (Old w w1) := Old.trans HA.out g1
  have S1 : Hid (StW w1 w.heap.size (.bool n) (.slice a0 (dig N).length cap0) 25) := SA0.out.old g1
  have z0 := S1.out.c0
  have z1 := S1.out.c1
  clear g1 KG HA SA0
  go_wp2_with fail
  go_loopw [3, 4] (fun s t W => ∃ (m : Nat) (acc : List UInt8) (a : Option Addr) (c : Nat), s = .slice a (dig m).length c ∧ t = .string ⟨acc.toArray⟩ ∧ m ≤ N ∧ Hid (RwT m W (.slice a (dig m).length c)) ∧ Hid ((0 < m → Lib.decDigits N = Lib.decDigits m ++ acc) ∧ (m = 0 → Lib.decDigits N = acc)) ∧ Hid (Old w W) ∧ Hid (StW W w.heap.size (.bool n) (.slice a0 (dig N).length cap0) 25)) (fun s t _ => (Lib.decDigits N).length - strLen t)
  case atStart => exact ⟨N, [], a0, cap0, rfl, rfl, Nat.le_refl _, HV.out.old HG1.out, ⟨fun _ => by simp, fun h => by omega⟩, HG1, S1⟩
  case round =>
    obtain ⟨m, acc, a, c, rfl, rfl, hmN, HR, HD, HG, HS⟩ := hrel
    clear S1 HG1 z0 z1 HV hl0 d0 d1
    have hcm : cnt m ≤ 79 := Nat.le_trans (cnt_mono hmN) hc
    have hacc : acc.length ≤ 1001 := by
      have h1 := HL.out
      rcases Nat.eq_zero_or_pos m with h0 | h0
      · rw [← HD.out.2 h0]; exact h1
      · rw [HD.out.1 h0, List.length_append] at h1; omega
    rcases Nat.eq_zero_or_pos m with h0 | h0
    · subst h0
      have hlz : (dig 0).length = 0 := by rw [dig_zero]; rfl
      have HE := HD.out.2 rfl
      subst HE
      have z0 := HS.out.c0
      obtain ⟨D, hD⟩ : ∃ D : ByteArray, ⟨(Lib.decDigits N).toArray⟩ = D := ⟨_, rfl⟩
      have hsD : D.size ≤ 1001 := by rw [← hD, ba_size]; exact HL.out
      have HP2 : Hid (n = false → T = D) := fun h => by rw [← hD]; exact HPO.out h
      have HN2 : Hid (n = true → (⟨#[45]⟩ : ByteArray) ++ D = T) := fun h => by rw [HNE.out h, ← hD]; exact ba_app [45] _
      rw [hD, hlz]
      clear hD HPO HNE HD HR HL hacc
      cases n with
      | false =>
        have HEE : Hid (T = D) := HP2.out rfl
        clear HP2 HN2
        go_wp2_with fail
        go_ret
        exact ⟨by rw [HEE.out]; rfl, HG.out⟩
      | true =>
        have hE := HN2.out rfl
        have hs : ((⟨#[45]⟩ : ByteArray).size : Int) + (D.size : Int) ≤ 9223372036854775807 := by rw [show (⟨#[45]⟩ : ByteArray).size = 1 from rfl]; omega
        have hs1 : (1 : Int) + (D.size : Int) ≤ 9223372036854775807 := by omega
        clear HP2 HN2
        go_wp2_with fail
        go_ret
        exact ⟨rfl, HG.out⟩
    · have hlm : 0 < (dig m).length := cnt_pos (show m ≠ 0 by omega)
      have d2 : decide ((0 : Int) < ((dig m).length : Int)) = true := decide_eq_true (by omega)
      have d3 : decide (0 < (dig m).length) = true := decide_eq_true hlm
      go_wp2_with fail
      refine (div_t m _ _ _ (HR.out.old ((Old.refl wr).alloc _)) (rwT_seven wr) (by omega)).mono ?_
      rintro e w2 ⟨v1, v2, rfl, g2, ⟨a1, c1, rfl, r1⟩, ⟨a2, c2, rfl, r2⟩⟩
      obtain ⟨q, hq⟩ : ∃ q, m / 10000000 = q := ⟨_, rfl⟩
      obtain ⟨r, hr⟩ : ∃ r, m % 10000000 = r := ⟨_, rfl⟩
      rw [hq] at r1 ⊢
      rw [hr] at r2 ⊢
      have hr2 : r < 10000000 := by omega
      have hqm : q ≤ N := by rw [← hq]; exact Nat.le_trans (Nat.div_le_self _ _) hmN
      have HQ : Hid (m / 10000000 = q) := hq
      have HRm : Hid (m % 10000000 = r) := hr
      have go2 : Old wr w2 := Old.trans ((Old.refl wr).alloc _) g2
      have HG2 : Hid (Old w w2) := Old.trans HG.out go2
      have HS2 : Hid (StW w2 w.heap.size (.bool n) (.slice a0 (dig N).length cap0) 25) := HS.out.old go2
      have HR2 : Hid (RwT q w2 (.slice a1 (dig q).length c1)) := ⟨a1, c1, rfl, r1⟩
      have HM2 : Hid (RwT r w2 (.slice a2 (dig r).length c2)) := ⟨a2, c2, rfl, r2⟩
      clear g2 go2 r1 r2 hq hr HG HS HR d2 d3 hlm
      go_wp2_with fail
      refine (word_t r _ _ HM2.out (by omega)).mono ?_
      rintro e w3 ⟨rfl, g3⟩
      have HG3 : Hid (Old w w3) := Old.trans HG2.out g3
      have HS3 : Hid (StW w3 w.heap.size (.bool n) (.slice a0 (dig N).length cap0) 25) := HS2.out.old g3
      have HR3 : Hid (RwT q w3 (.slice a1 (dig q).length c1)) := HR2.out.old g3
      clear g3 HG2 HS2 HR2 HM2
      go_wp2_with fail
      refine (num_any 6 r _ (by omega) (by omega)).mono ?_
      rintro e w4 ⟨rfl, g4⟩
      have HG4 : Hid (Old w w4) := Old.trans HG3.out g4
      have HS4 : Hid (StW w4 w.heap.size (.bool n) (.slice a0 (dig N).length cap0) 25) := HS3.out.old g4
      have HR4 : Hid (RwT q w4 (.slice a1 (dig q).length c1)) := HR3.out.old g4
      clear g4 HG3 HS3 HR3
      have hdl : (Lib.decDigits r).length ≤ 7 := dec_len 6 r (by omega)
      go_wp2_with fail
      go_loopw [7] (fun s W => ∃ j : Nat, j ≤ 7 - (Lib.decDigits r).length ∧ s = .string ⟨(List.replicate j (48 : UInt8) ++ Lib.decDigits r).toArray⟩ ∧ Hid (q = 0 → j = 0) ∧ Hid (Old w W) ∧ Hid (StW W w.heap.size (.bool n) (.slice a0 (dig N).length cap0) 25) ∧ Hid (RwT q W (.slice a1 (dig q).length c1))) (fun s _ => 7 - strLen s)
      case atStart => exact ⟨0, by omega, by simp, fun _ => rfl, HG4, HS4, HR4⟩
      case round =>
        obtain ⟨j, hj, rfl, HJ, HG5, HS5, HR5⟩ := hrel
        clear HG4 HS4 HR4
        have hlj : (List.replicate j (48 : UInt8) ++ Lib.decDigits r).length = j + (Lib.decDigits r).length := by simp
        obtain ⟨L, hL⟩ : ∃ L, (Lib.decDigits r).length = L := ⟨_, rfl⟩
        rw [hL] at hlj hj hdl
        have HLd : Hid ((Lib.decDigits r).length = L) := hL
        obtain ⟨G, hG⟩ : ∃ G : ByteArray, ⟨(List.replicate j (48 : UInt8) ++ Lib.decDigits r).toArray⟩ = G := ⟨_, rfl⟩
        have sG : G.size = j + L := by rw [← hG, ba_size, hlj]
        have HGd : Hid (⟨(List.replicate j (48 : UInt8) ++ Lib.decDigits r).toArray⟩ = G) := hG
        rw [hG]
        clear hG hlj hL
        by_cases hgo : j + L < 7 ∧ 0 < q
        · have hlq : 0 < (dig q).length := cnt_pos (show q ≠ 0 by omega)
          have e1 : decide ((0 : Int) < ((dig q).length : Int)) = true := decide_eq_true (by omega)
          have e2 : decide (0 < (dig q).length) = true := decide_eq_true hlq
          have e3 : decide ((G.size : Int) < 7) = true := decide_eq_true (by omega)
          have e4 : decide (G.size < 7) = true := decide_eq_true (by omega)
          obtain ⟨Z, hZ⟩ : ∃ Z : ByteArray, (⟨#[48]⟩ : ByteArray) ++ G = Z := ⟨_, rfl⟩
          have hs1 : (1 : Int) + (G.size : Int) ≤ 9223372036854775807 := by omega
          have HZ : Hid (Z = ⟨(List.replicate (j + 1) (48 : UInt8) ++ Lib.decDigits r).toArray⟩) := by
            show _ = _
            rw [← hZ, ← HGd.out]
            exact ba_app [48] _
          have HLt : Hid (G.size < 7) := by show _ < _; omega
          clear hlq
          have HJ2 : Hid (q = 0 → j + 1 = 0) := fun h => by omega
          have hj2 : j + 1 ≤ 7 - L := by omega
          have HSG : Hid (G.size = j + L) := sG
          clear sG hgo HJ
          go_wp2_with fail
          refine ⟨⟨j + 1, by rw [HLd.out]; exact hj2, ?_, HJ2, HG5, HS5, HR5⟩, ?_⟩
          · show Value.string _ = _
            rw [HZ.out]
          · show 7 - Z.size < 7 - G.size
            rw [HZ.out, ba_size]
            have h1 := HLt.out
            have h2 := HLd.out
            have h3 := HSG.out
            simp only [List.length_append, List.length_replicate]
            omega
        · have HL0 : Hid (0 < L) := by show _ < _; rw [← HLd.out]; exact dec_len_pos r
          have HDN : Hid ((0 < q → Lib.decDigits N = Lib.decDigits q ++ ((List.replicate j (48 : UInt8) ++ Lib.decDigits r) ++ acc)) ∧ (q = 0 → Lib.decDigits N = (List.replicate j (48 : UInt8) ++ Lib.decDigits r) ++ acc)) := by
            have h1 := HQ.out
            have h2 := HRm.out
            have h3 := HLd.out
            refine ⟨fun hq0 => ?_, fun hq0 => ?_⟩
            · have hjL : j = 7 - L := by omega
              rw [HD.out.1 h0, dec_group 6 m (by omega)]
              simp only [Nat.reduceAdd, Nat.reducePow]
              rw [h1, h2, h3, hjL]
              simp
            · rw [HD.out.1 h0, HJ.out hq0, ← h2, dec_last 7 m (by omega)]
              simp
          obtain ⟨A, hA⟩ : ∃ A : ByteArray, ⟨acc.toArray⟩ = A := ⟨_, rfl⟩
          obtain ⟨GA, hGA⟩ : ∃ GA : ByteArray, G ++ A = GA := ⟨_, rfl⟩
          have sA : A.size = acc.length := by rw [← hA, ba_size]
          have hs2 : (G.size : Int) + (A.size : Int) ≤ 9223372036854775807 := by rw [sG, sA]; omega
          have HE : Hid (GA = ⟨((List.replicate j (48 : UInt8) ++ Lib.decDigits r) ++ acc).toArray⟩) := by
            show _ = _
            rw [← hGA, ← HGd.out, ← hA, ba_app]
          have HM : Hid ((Lib.decDigits N).length - GA.size < (Lib.decDigits N).length - acc.length) := by
            show _ < _
            have h1 := dec_len_pos m
            have h2 := congrArg List.length (HD.out.1 h0)
            have h3 := HLd.out
            have h4 := HL0.out
            rw [HE.out, ba_size]
            simp only [List.length_append, List.length_replicate] at h2 ⊢
            omega
          have HAd : Hid (⟨acc.toArray⟩ = A) := hA
          have HSG : Hid (G.size = j + L) := sG
          have HGO : Hid (¬ (j + L < 7 ∧ 0 < q)) := hgo
          rw [hA]
          clear hA HD HQ HRm HJ hgo
          have fin : ∀ (x : Value), x = .string GA → (∃ (m : Nat) (acc : List UInt8) (a : Option Addr) (c : Nat), Value.slice a1 (dig q).length c1 = .slice a (dig m).length c ∧ x = .string ⟨acc.toArray⟩ ∧ m ≤ N ∧ Hid (RwT m wr (.slice a (dig m).length c)) ∧ Hid ((0 < m → Lib.decDigits N = Lib.decDigits m ++ acc) ∧ (m = 0 → Lib.decDigits N = acc)) ∧ Hid (Old w wr) ∧ Hid (StW wr w.heap.size (.bool n) (.slice a0 (dig N).length cap0) 25)) := fun x hx => ⟨q, (List.replicate j (48 : UInt8) ++ Lib.decDigits r) ++ acc, a1, c1, rfl, by rw [hx, HE.out], hqm, HR5, HDN, HG5, HS5⟩
          have HF := Lib.hid fin
          clear fin HDN
          by_cases h7 : j + L < 7
          · have hq0 : q = 0 := by have := HGO.out; omega
            subst hq0
            have hlz : (dig 0).length = 0 := by rw [dig_zero]; rfl
            have e3 : decide ((G.size : Int) < 7) = true := decide_eq_true (by omega)
            have e4 : decide (G.size < 7) = true := decide_eq_true (by omega)
            rw [hlz]
            clear sG
            go_wp2_with fail
            refine ⟨?_, ?_⟩
            · have := HF.out _ rfl
              rw [hlz] at this
              exact this
            · exact HM.out
          · have e3 : decide ((G.size : Int) < 7) = false := decide_eq_false (by omega)
            have e4 : decide (G.size < 7) = false := decide_eq_false (by omega)
            clear sG
            go_wp2_with fail
            refine ⟨HF.out _ rfl, ?_⟩
            exact HM.out
end Go.Proofs.YtjedpceiimceoaaDoor
/- Proved: the model's WholeText at every whole number. -/
namespace Go.Proofs.YtjedpceiimceoaaDoor
open Go.ChangeShapes Go.WideShapes Go.ChangeAt Go.RowKit
open M2
set_option linter.unusedVariables false
set_option linter.unusedSimpArgs false
set_option maxRecDepth 100000 in
set_option maxHeartbeats 4000000 in
theorem spec_WholeText_zero (n : Bool) (a0 : Option Addr) (cap0 : Nat) (w : World)
    (KG : ∀ W, Old w W → Calls Tryd.prog 38 #[.agg #[.bool n, .slice a0 0 cap0]] W fun e w' => e = .returned (.bool true) ∧ Old W w') :
    Calls Tryd.prog 14 #[.agg #[.bool n, .slice a0 0 cap0]] w fun e w' => e = .returned (.string ⟨#[48]⟩) ∧ Old w w' := by
  have HA : Hid (Old w (w.alloc (.cells #[.bool n, .slice a0 0 cap0] 25))) := (Old.refl w).alloc _
  have SA0 : Hid (StW (w.alloc (.cells #[.bool n, .slice a0 0 cap0] 25)) w.heap.size (.bool n) (.slice a0 0 cap0) 25) := StW.new w _ _ _
  go_enter Tryd.func14, Tryd.ntmps14
  go_wp2_with fail
  refine (KG _ HA.out).mono ?_
  rintro e w1 ⟨rfl, g1⟩
  have HG1 : Hid (Old w w1) := Old.trans HA.out g1
  have S1 : Hid (StW w1 w.heap.size (.bool n) (.slice a0 0 cap0) 25) := SA0.out.old g1
  have z0 := S1.out.c0
  have z1 := S1.out.c1
  clear g1
  go_wp2_with fail
  go_ret
  exact ⟨rfl, HG1.out⟩
set_option maxRecDepth 100000 in
set_option maxHeartbeats 4000000 in
theorem spec_WholeText (n : Bool) (xs : List Int) (v : Value) (w : World) (T : ByteArray) (hv : Row w v xs) (la : xs.length ≤ 1048576) (hX : TxI n xs T) :
    Calls Tryd.prog 14 #[.agg #[.bool n, v]] w fun e w' => e = .returned (.string T) ∧ Old w w' := by
  have HV : Hid (Row w v xs) := hv
  obtain ⟨a0, cap0, rfl⟩ := hv.slice
  clear hv
  have HA : Hid (Old w (w.alloc (.cells #[.bool n, .slice a0 xs.length cap0] 25))) := (Old.refl w).alloc _
  have SA0 : Hid (StW (w.alloc (.cells #[.bool n, .slice a0 xs.length cap0] 25)) w.heap.size (.bool n) (.slice a0 xs.length cap0) 25) := StW.new w _ _ _
  by_cases hga : Good n xs
  · have cga := fun W (h : Row W (.slice a0 xs.length cap0) xs) => good_any n xs _ W h la
    rw [decide_eq_true hga] at cga
    obtain ⟨ex, gx, lx⟩ := good_gw hga
    rcases Nat.eq_zero_or_pos xs.length with hx0 | hx0
    · obtain rfl := List.length_eq_zero_iff.1 hx0
      have hn : n = false := by
        cases n with
        | false => rfl
        | true => exact absurd ⟨rfl, rfl⟩ hga.2.1
      have hE : T = ⟨#[48]⟩ := by
        rw [hX.pos hga hn]
        have : val (nat []) = 0 := rfl
        rw [this, dec_lt (by omega)]
        rfl
      rw [hE]
      exact spec_WholeText_zero n a0 cap0 w (fun W q => cga W (HV.out.old q))
    · have hd : dig (val (nat xs)) = nat xs := dig_val gx.1
      have hl : (dig (val (nat xs))).length = xs.length := by rw [hd, nat_len]
      have hN : 0 < val (nat xs) := by
        rcases Nat.eq_zero_or_pos (val (nat xs)) with h0 | h0
        · rw [h0, dig_zero] at hl
          simp at hl
          omega
        · exact h0
      have r := spec_WholeText_good n (val (nat xs)) a0 cap0 w T hN (by rw [cnt_nrm gx.1]; omega) ⟨a0, cap0, rfl, by rw [hl, hd, ex]; exact HV.out⟩ (fun W q => by rw [hl]; exact cga W (HV.out.old q)) (hX.pos hga) (hX.neg hga)
      rw [hl] at r
      exact r
  · have cga := fun W (h : Row W (.slice a0 xs.length cap0) xs) => good_any n xs _ W h la
    rw [decide_eq_false hga] at cga
    have HGA := Lib.hid cga
    have HE : Hid (T = ⟨#[]⟩) := hX.bad hga
    clear hX hga cga
    go_enter Tryd.func14, Tryd.ntmps14
    go_wp2_with fail
    refine (HGA.out _ (HV.out.old HA.out)).mono ?_
    rintro e w1 ⟨rfl, g1⟩
    have HG1 : Hid (Old w w1) := Old.trans HA.out g1
    clear g1
    go_wp2_with fail
    go_ret
    exact ⟨by rw [HE.out]; rfl, HG1.out⟩
end Go.Proofs.YtjedpceiimceoaaDoor
/- Proved: sizes as rows of cells of any content: how they are loaded, stored and answered whole; the program's sizeOf at any limbs; no other function of the program. -/
namespace Go.Proofs.YtjedpceiimceoaaDoor
open Go.ChangeShapes Go.WideShapes Go.ChangeAt Go.RowKit
open M2
set_option linter.unusedVariables false
set_option linter.unusedSimpArgs false
def Sq (S : Array Value) : Prop := S.size = 81 ∧ S.all (·.oneCell') = true
theorem sq_v {n : Nat} (h : cnt n ≤ 80) : Sq (szV n) := ⟨by unfold szV; exact szA_size (pad_len (by unfold cnt at h; omega)) _, szA_one _ _⟩
structure Sg (w : World) (g : Nat) (A : Array Value) : Prop where
  blk : w.heap[g]? = some (.cells A 50 (0, 0))
  sq : Sq A
theorem Sg.lt {w : World} {g : Nat} {A : Array Value} (h : Sg w g A) : g < w.heap.size := (Array.getElem?_eq_some_iff.1 h.blk).1
theorem Sg.old {w w' : World} {g : Nat} {A : Array Value} (h : Sg w g A) (o : Old w w') : Sg w' g A := ⟨by rw [o.block g h.lt]; exact h.blk, h.sq⟩
theorem Sg.row {w : World} {g : Nat} {A : Array Value} (h : Sg w g A) (B : Array Value) (hB : Sq B) : Sg (w.setRow g B) g B := ⟨setRow_heap w g _ _ _ _ h.blk, hB⟩
theorem Sg.new (w : World) (A : Array Value) (g : Nat) (hA : Sq A) (hg : g = w.heap.size) : Sg (w.alloc (.cells A 50)) g A := by subst hg; exact ⟨heap_alloc_new w _, hA⟩
theorem sq_zero : Sq Tryd.zeroCells50 := by rw [szZero]; exact ⟨szA_size (ext_len (by simp)) _, szA_one _ _⟩
theorem Sg.zero (w : World) (g : Nat) (hg : g = w.heap.size) : Sg (w.alloc (.cells Tryd.zeroCells50 50)) g Tryd.zeroCells50 := Sg.new w _ g sq_zero hg
theorem Bk.otherRow {w : World} {k : Nat} {vs : Array Value} {t : TypeId} (h : Bk w k vs t) {g : Nat} (hg : k ≠ g) (cs : Array Value) : Bk (w.setRow g cs) k vs t := (setRow_other w g k cs hg).trans h
section
variable {ops : Array Oper} {rest : List Oper} {a : Act} {w : World} {Q : Exit → Act → World → Prop} {ty : TypeId} {pos : String} {d : Option Tmp} {x y : Operand}
theorem load_sg {af : Array Edge} {g : Nat} {A : Array Value} (hs : Sg w g A) (hx : a.eval x = .pointer (some ⟨g, 0, none⟩))
    (h : wpList Tryd.prog ops Q rest (a.put d (.agg A)) w) : wpList Tryd.prog ops Q (⟨d, .load 50 x, ty, pos, af, none⟩ :: rest) a w :=
  wpList_load_row rfl 50 x rfl g hx 50 A (0, 0) _ hs.blk Tryd.underlying50 rfl (by rw [hs.sq.1]; exact infoSz) h
end
end Go.Proofs.YtjedpceiimceoaaDoor
