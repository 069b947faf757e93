/- Proved: the contract of the model's DivWholes: what it answers, as a function of the numbers. -/
import Derived.Test.YtafcffnpobdhgaaImpRoundB
import Derived.Deep.DeepCutAuto
namespace Go.Proofs.Ytafcffnpobdhgaa
open Go.ChangeShapes Go.WideShapes Go.ChangeAt Go.RowKit
open M2
set_option linter.unusedVariables false
set_option linter.unusedSimpArgs false
/-- what DivWholes answers -/
def divW (n m : Bool) (xs ys : List Int) : Bool × List Nat × List Nat × Bool := if Dv n m xs ys then (ng (sv n (nat xs) / (val (nat ys) : Int)), dg (sv n (nat xs) / (val (nat ys) : Int)), dg (sv n (nat xs) % (val (nat ys) : Int)), true) else (false, [], [], false)
/-- since w0 a struct has been made in block k, a quotient, beside what is left -/
structure MadeD (w0 : World) (rb : Bool) (rl sl : List Nat) (W : World) (k : Nat) (a a' : Option Addr) (c c' : Nat) : Prop where
  old : Old w0 W
  st : St W k (.bool rb) (.slice a rl.length c) 57
  own : Own W w0.heap.size (.slice a rl.length c) (toI rl)
  own' : Own W w0.heap.size (.slice a' sl.length c') (toI sl)
theorem made_last {w0 w5 : World} {rb : Bool} {rl sl : List Nat} {a a' : Option Addr} {c c' base : Nat} (g : Old w0 w5) (o : Own w5 base (.slice a rl.length c) (toI rl)) (o' : Own w5 base (.slice a' sl.length c') (toI sl)) (hb : w0.heap.size ≤ base) :
    MadeD w0 rb rl sl (w5.alloc (.cells #[.bool rb, .slice a rl.length c] 57)) w5.heap.size a a' c c' :=
  ⟨g.alloc _, St.new _ _ _ _, (Own.low o hb).alloc _, (Own.low o' hb).alloc _⟩
theorem made_set {w0 w5 : World} {rb : Bool} {rl sl : List Nat} {a a' : Option Addr} {c c' base k : Nat} (g : Old w0 w5) (o : Own w5 base (.slice a rl.length c) (toI rl)) (o' : Own w5 base (.slice a' sl.length c') (toI sl)) (s : St w5 k (.bool false) (.slice none 0 0) 57) (hb : w0.heap.size ≤ base) (hk : w0.heap.size ≤ k) (hne : k < base) :
    MadeD w0 rb rl sl ((w5.setCell ⟨k, 0, none⟩ (.bool rb)).setCell ⟨k, 1, none⟩ (.slice a rl.length c)) k a a' c c' :=
  ⟨(g.own (p := ⟨k, 0, none⟩) hk _).own (p := ⟨k, 1, none⟩) hk _, St.set2 s _ _, Own.low (own_set2 o hne _ _) hb, Own.low (own_set2 o' hne _ _) hb⟩
set_option maxRecDepth 100000 in
set_option maxHeartbeats 8000000 in
theorem spec_div (n m : Bool) (xs ys : List Int) (v u : Value) (w : World) (hv : Row w v xs) (hu : Row w u ys) (la : xs.length ≤ 1048576) (lb : ys.length ≤ 1048576) (R : Bool × List Nat × List Nat × Bool) (hR : divW n m xs ys = R) :
    Calls Try.prog 15 #[.agg #[.bool n, v], .agg #[.bool m, u]] w fun e w' => ∃ v1 v2, e = .returned (.tuple #[.agg #[.bool R.1, v1], .agg #[.bool false, v2], .bool R.2.2.2]) ∧ Old w w' ∧ Own w' w.heap.size v1 (toI R.2.1) ∧ Own w' w.heap.size v2 (toI R.2.2.1) := by
  have HV : Hid (Row w v xs) := hv
  have HU : Hid (Row w u ys) := hu
  obtain ⟨c0, cap0, rfl⟩ := hv.slice
  obtain ⟨c1, cap1, rfl⟩ := hu.slice
  clear hv hu
  have HA : Hid (Old w ((((w.alloc (.cells #[.bool n, .slice c0 xs.length cap0] 25)).alloc (.cells #[.bool m, .slice c1 ys.length cap1] 25)).alloc (.cells #[.bool false, .slice none 0 0] 25)).alloc (.cells #[.bool false, .slice none 0 0] 25))) := ((((Old.refl w).alloc _).alloc _).alloc _).alloc _
  have SA0 : Hid (St ((((w.alloc (.cells #[.bool n, .slice c0 xs.length cap0] 25)).alloc (.cells #[.bool m, .slice c1 ys.length cap1] 25)).alloc (.cells #[.bool false, .slice none 0 0] 25)).alloc (.cells #[.bool false, .slice none 0 0] 25)) w.heap.size (.bool n) (.slice c0 xs.length cap0) 25) := (St.at1 w _ _ _ _ _ _).old (((Old.refl _).alloc _).alloc _)
  have SB0 : Hid (St ((((w.alloc (.cells #[.bool n, .slice c0 xs.length cap0] 25)).alloc (.cells #[.bool m, .slice c1 ys.length cap1] 25)).alloc (.cells #[.bool false, .slice none 0 0] 25)).alloc (.cells #[.bool false, .slice none 0 0] 25)) (w.heap.size + 1) (.bool m) (.slice c1 ys.length cap1) 25) := (St.at2 w _ _ _ _ _ _).old (((Old.refl _).alloc _).alloc _)
  have SC0 : Hid (St ((((w.alloc (.cells #[.bool n, .slice c0 xs.length cap0] 25)).alloc (.cells #[.bool m, .slice c1 ys.length cap1] 25)).alloc (.cells #[.bool false, .slice none 0 0] 25)).alloc (.cells #[.bool false, .slice none 0 0] 25)) (w.heap.size + 1 + 1) (.bool false) (.slice none 0 0) 25) := by
    have h := (St.new ((w.alloc (.cells #[.bool n, .slice c0 xs.length cap0] 25)).alloc (.cells #[.bool m, .slice c1 ys.length cap1] 25)) (.bool false) (.slice none 0 0) 25).old ((Old.refl _).alloc (.cells #[.bool false, .slice none 0 0] 25))
    rw [show ((w.alloc (.cells #[.bool n, .slice c0 xs.length cap0] 25)).alloc (.cells #[.bool m, .slice c1 ys.length cap1] 25)).heap.size = w.heap.size + 1 + 1 by simp] at h
    exact h
  have SD0 : Hid (St ((((w.alloc (.cells #[.bool n, .slice c0 xs.length cap0] 25)).alloc (.cells #[.bool m, .slice c1 ys.length cap1] 25)).alloc (.cells #[.bool false, .slice none 0 0] 25)).alloc (.cells #[.bool false, .slice none 0 0] 25)) (w.heap.size + 1 + 1 + 1) (.bool false) (.slice none 0 0) 25) := by
    have h := St.new (((w.alloc (.cells #[.bool n, .slice c0 xs.length cap0] 25)).alloc (.cells #[.bool m, .slice c1 ys.length cap1] 25)).alloc (.cells #[.bool false, .slice none 0 0] 25)) (.bool false) (.slice none 0 0) 25
    rw [show (((w.alloc (.cells #[.bool n, .slice c0 xs.length cap0] 25)).alloc (.cells #[.bool m, .slice c1 ys.length cap1] 25)).alloc (.cells #[.bool false, .slice none 0 0] 25)).heap.size = w.heap.size + 1 + 1 + 1 by simp] at h
    exact h
  have cd := fun W (h : Row W (.slice c0 xs.length cap0) xs) (k : Row W (.slice c1 ys.length cap1) ys) => divides_any n m xs ys _ _ W h k la lb
  by_cases hd : Dv n m xs ys
  · rw [decide_eq_true hd] at cd
    unfold divW at hR
    rw [if_pos hd] at hR
    obtain ⟨⟨hga, hgb⟩, hm, hy0⟩ := hd
    obtain ⟨ex, gx, lx⟩ := good_gw hga
    obtain ⟨ey, gy, ly⟩ := good_gw hgb
    have hne : nat ys ≠ [] := fun h => by rw [← nat_len, h] at hy0; simp at hy0
    have hD := nrm_pos gy.1 hne
    obtain ⟨q, hq⟩ : ∃ q, sv n (nat xs) / (val (nat ys) : Int) = q := ⟨_, rfl⟩
    obtain ⟨r, hr⟩ : ∃ r : Nat, (sv n (nat xs) % (val (nat ys) : Int)).toNat = r := ⟨_, rfl⟩
    have hr0 := Int.emod_nonneg (sv n (nat xs)) (show (val (nat ys) : Int) ≠ 0 by omega)
    have hr1 := Int.emod_lt_of_pos (sv n (nat xs)) (show (0 : Int) < (val (nat ys) : Int) by omega)
    have hq40 : (dg q).length ≤ 40 := by rw [← hq]; exact dg_div_len gx.1 lx hD
    have hr40 : (dig r).length ≤ 40 := by
      have h1 : cnt r ≤ cnt (val (nat ys)) := cnt_mono (by omega)
      have h2 := cnt_nrm gy.1
      have h3 : (dig r).length = cnt r := rfl
      omega
    have HRR : Hid (R = (ng q, dg q, dig r, true)) := by
      rw [← hR, hq]
      show _ = _
      congr 3
      unfold dg
      rw [show (sv n (nat xs) % (val (nat ys) : Int)).natAbs = r by omega]
    have HQ : Hid (sv n (nat xs) / (val (nat ys) : Int) = q) := hq
    have HR : Hid ((sv n (nat xs) % (val (nat ys) : Int)).toNat = r) := hr
    have HV2 : Hid (Row w (.slice c0 xs.length cap0) (toI (nat xs))) := by rw [ex]; exact HV.out
    have HU2 : Hid (Row w (.slice c1 ys.length cap1) (toI (nat ys))) := by rw [ey]; exact HU.out
    have HGX : Hid (Gw n (nat xs) ∧ (nat xs).length ≤ 40) := ⟨gx, lx⟩
    have HGY : Hid (Gw m (nat ys) ∧ nat ys ≠ [] ∧ (nat ys).length ≤ 40) := ⟨gy, hne, ly⟩
    clear hga hgb ex ey gx gy lx ly hR hq hr hm hne hy0 hD hr0 hr1
    go_enter Try.func15, Try.ntmps15
    go_wp2_with fail
    refine (cd _ (HV.out.old HA.out) (HU.out.old HA.out)).mono ?_
    rintro e w1 ⟨rfl, g1⟩
    have SA1 : Hid (St w1 w.heap.size (.bool n) (.slice c0 xs.length cap0) 25) := SA0.out.old g1
    have SB1 : Hid (St w1 (w.heap.size + 1) (.bool m) (.slice c1 ys.length cap1) 25) := SB0.out.old g1
    have SC1 : Hid (St w1 (w.heap.size + 1 + 1) (.bool false) (.slice none 0 0) 25) := SC0.out.old g1
    have SD1 : Hid (St w1 (w.heap.size + 1 + 1 + 1) (.bool false) (.slice none 0 0) 25) := SD0.out.old g1
    have HG1 : Hid (Old w w1) := Old.trans HA.out g1
    have hs1 : w.heap.size + 4 ≤ w1.heap.size := by have := SD1.out.lt; omega
    clear g1 HA SA0 SB0 SC0 SD0
    have a0 := SA1.out.c0
    have a1 := SA1.out.c1
    have b0 := SB1.out.c0
    have b1 := SB1.out.c1
    have HAS : Hid (∀ W', Old w1 W' → (W'.cell? ⟨w.heap.size, 0, none⟩ = some (.bool n) ∧ W'.cell? ⟨w.heap.size, 1, none⟩ = some (.slice c0 xs.length cap0) ∧ W'.cell? ⟨w.heap.size + 1, 0, none⟩ = some (.bool m) ∧ W'.cell? ⟨w.heap.size + 1, 1, none⟩ = some (.slice c1 ys.length cap1))) := fun W' g => ⟨(SA1.out.old g).c0, (SA1.out.old g).c1, (SB1.out.old g).c0, (SB1.out.old g).c1⟩
    go_upto_region 3 with fail
    go_cut [7, 8] (fun s7 s8 W => ∃ k a c a' c', s7 = .pointer (some ⟨k, 0, none⟩) ∧ s8 = .slice a' (dig r).length c' ∧ MadeD w1 (ng q) (dg q) (dig r) W k a a' c c')
    case first =>
      have tok : True := trivial
      go_region_held3 (fun W' => W'.cell? ⟨w.heap.size, 0, none⟩ = some (.bool n) ∧ W'.cell? ⟨w.heap.size, 1, none⟩ = some (.slice c0 xs.length cap0) ∧ W'.cell? ⟨w.heap.size + 1, 0, none⟩ = some (.bool m) ∧ W'.cell? ⟨w.heap.size + 1, 1, none⟩ = some (.slice c1 ys.length cap1)) (first | with_reducible exact HAS.out _ K5.out | exact HAS.out _ (K5.out.alloc _) | with_reducible exact HAS.out _ K3.out | exact HAS.out _ (K3.out.alloc _) | exact HAS.out _ ((Below.drew (Old.refl w1)).alloc (Nat.le_refl _) _) | with_reducible exact HAS.out _ (Below.drew (Old.refl w1)) | with_reducible exact HAS.out _ (Old.refl w1) | exact HAS.out _ ((K5.out.own (p := ⟨w1.heap.size, 0, none⟩) (Nat.le_refl _) _).own (p := ⟨w1.heap.size, 1, none⟩) (Nat.le_refl _) _) | exact HAS.out _ ((K5.out.own (p := ⟨w3.heap.size, 0, none⟩) (K3.out.size) _).own (p := ⟨w3.heap.size, 1, none⟩) (K3.out.size) _) | fail) (first
        | (go_at_call 33; refine (in_any n c0 xs.length cap0 _).mono ?_; rintro e w3 ⟨rfl, g3⟩; have K3 : Hid (Old w1 w3) := Old.trans (((Old.refl w1).drewN 1).alloc (.cells #[.bool false, .slice none 0 0] 57)) g3; have KA : Hid (St w3 w1.heap.size (.bool false) (.slice none 0 0) 57) := St.old (w := ((w1.drewN 1).alloc (.cells #[.bool false, .slice none 0 0] 57))) (St.new (w1.drewN 1) _ _ _) g3; have k0_ := KA.out.c0; have k1_ := KA.out.c1; have l0_ := KA.out.f0; have l1_ := KA.out.f1; clear g3)
        | (go_at_call 33; refine (in_any n c0 xs.length cap0 _).mono ?_; rintro e w3 ⟨rfl, g3⟩; have K3 : Hid (Old w1 w3) := Old.trans ((Old.refl w1).drewN 1) g3; clear g3)
        | (go_at_call 40; refine (down_any n (nat xs) (nat ys) _ _ _ (HV2.out.old (Old.trans HG1.out (K3.out))) (HU2.out.old (Old.trans HG1.out (K3.out))) HGX.out.1.1.1 HGY.out.1.1 HGY.out.2.1 (by have := HGX.out.2; omega) (by have := HGY.out.2.2; omega)).mono ?_; rw [HQ.out, HR.out]; rintro e w5 ⟨v5, v6, rfl, g5, o5, o6⟩; obtain ⟨a5, c5, rfl⟩ := (Own.row o5).sliceN; obtain ⟨a6, c6, rfl⟩ := (Own.row o6).sliceN; have K5 : Hid (Old w1 w5) := Old.trans K3.out g5; have O5 : Hid (Own w5 w3.heap.size (.slice a5 (dg q).length c5) (toI (dg q))) := o5; have O6 : Hid (Own w5 w3.heap.size (.slice a6 (dig r).length c6) (toI (dig r))) := o6; have KB : Hid (St w5 w1.heap.size (.bool false) (.slice none 0 0) 57) := KA.out.old g5; have hlt_ : Hid (w1.heap.size < w3.heap.size) := KA.out.lt; have k0_ := KB.out.c0; have k1_ := KB.out.c1; have l0_ := KB.out.f0; have l1_ := KB.out.f1; clear g5 o5 o6)
        | (go_at_call 40; refine (down_any n (nat xs) (nat ys) _ _ _ (HV2.out.old (Old.trans HG1.out (K3.out))) (HU2.out.old (Old.trans HG1.out (K3.out))) HGX.out.1.1.1 HGY.out.1.1 HGY.out.2.1 (by have := HGX.out.2; omega) (by have := HGY.out.2.2; omega)).mono ?_; rw [HQ.out, HR.out]; rintro e w5 ⟨v5, v6, rfl, g5, o5, o6⟩; obtain ⟨a5, c5, rfl⟩ := (Own.row o5).sliceN; obtain ⟨a6, c6, rfl⟩ := (Own.row o6).sliceN; have K5 : Hid (Old w1 w5) := Old.trans K3.out g5; have O5 : Hid (Own w5 w3.heap.size (.slice a5 (dg q).length c5) (toI (dg q))) := o5; have O6 : Hid (Own w5 w3.heap.size (.slice a6 (dig r).length c6) (toI (dig r))) := o6; clear g5 o5 o6)
        | (go_at_call 40; refine (down_any n (nat xs) (nat ys) _ _ _ (HV2.out.old (Old.trans HG1.out (K3.out.alloc (.cells #[.bool false, .slice none 0 0] 57)))) (HU2.out.old (Old.trans HG1.out (K3.out.alloc (.cells #[.bool false, .slice none 0 0] 57)))) HGX.out.1.1.1 HGY.out.1.1 HGY.out.2.1 (by have := HGX.out.2; omega) (by have := HGY.out.2.2; omega)).mono ?_; rw [HQ.out, HR.out]; rintro e w5 ⟨v5, v6, rfl, g5, o5, o6⟩; obtain ⟨a5, c5, rfl⟩ := (Own.row o5).sliceN; obtain ⟨a6, c6, rfl⟩ := (Own.row o6).sliceN; have K5 : Hid (Old w1 w5) := Old.trans (K3.out.alloc (.cells #[.bool false, .slice none 0 0] 57)) g5; have O5 : Hid (Own w5 (w3.heap.size + 1) (.slice a5 (dg q).length c5) (toI (dg q))) := Own.low o5 (by simp); have O6 : Hid (Own w5 (w3.heap.size + 1) (.slice a6 (dig r).length c6) (toI (dig r))) := Own.low o6 (by simp); have KC_ : Hid (St w5 w3.heap.size (.bool false) (.slice none 0 0) 57) := St.old (w := (w3.alloc (.cells #[.bool false, .slice none 0 0] 57))) (St.new w3 _ _ _) g5; have k0_ := KC_.out.c0; have k1_ := KC_.out.c1; have l0_ := KC_.out.f0; have l1_ := KC_.out.f1; clear g5 o5 o6)
        | fail)
      all_goals (go_wp2_with fail; go_meet; first | (exact ⟨w1.heap.size, a5, c5, a6, c6, rfl, rfl, made_set K5.out O5.out O6.out KB.out K3.out.size (Nat.le_refl _) (by have := hlt_.out; omega)⟩) | (exact ⟨w3.heap.size, a5, c5, a6, c6, rfl, rfl, made_set K5.out O5.out O6.out KC_.out (by have := K3.out.size; omega) K3.out.size (by omega)⟩) | (exact ⟨w5.heap.size, a5, c5, a6, c6, rfl, rfl, made_last K5.out O5.out O6.out K3.out.size⟩))
    case rest =>
    obtain ⟨k7, a5, c5, a6, c6, rfl, rfl, MD⟩ := hcut
    clear a0 a1 b0 b1 HAS SA1 SB1
    have HG2 : Hid (Old w wc) := Old.trans HG1.out MD.old
    have SC2 : Hid (St wc (w.heap.size + 1 + 1) (.bool false) (.slice none 0 0) 25) := SC1.out.old MD.old
    have SD2 : Hid (St wc (w.heap.size + 1 + 1 + 1) (.bool false) (.slice none 0 0) 25) := SD1.out.old MD.old
    have R5 : Hid (Row wc (.slice a5 (dg q).length c5) (toI (dg q))) := Own.row MD.own
    have R6 : Hid (Row wc (.slice a6 (dig r).length c6) (toI (dig r))) := Own.row MD.own'
    have hs2 : w.heap.size + 4 ≤ wc.heap.size := by have := SD2.out.lt; omega
    have q0 := MD.st.c0
    have q1 := MD.st.c1
    clear MD SC1 SD1 HG1 HGX HGY HV2 HU2 HQ HR
    go_wp2_with fail
    refine (out_any (ng q) (dg q) _ _ R5.out hq40).mono ?_
    rintro e w7 ⟨v7, rfl, g7, o7⟩
    obtain ⟨a7, c7, rfl⟩ := (Own.row o7).sliceN
    clear q0 q1
    have HG3 : Hid (Old w (w7.alloc (.cells #[.bool (ng q), .slice a7 (dg q).length c7] 25))) := Old.trans HG2.out (g7.alloc _)
    have SC3 : Hid (St (w7.alloc (.cells #[.bool (ng q), .slice a7 (dg q).length c7] 25)) (w.heap.size + 1 + 1) (.bool false) (.slice none 0 0) 25) := SC2.out.old (g7.alloc _)
    have SD3 : Hid (St (w7.alloc (.cells #[.bool (ng q), .slice a7 (dg q).length c7] 25)) (w.heap.size + 1 + 1 + 1) (.bool false) (.slice none 0 0) 25) := SD2.out.old (g7.alloc _)
    have SX3 : Hid (St (w7.alloc (.cells #[.bool (ng q), .slice a7 (dg q).length c7] 25)) w7.heap.size (.bool (ng q)) (.slice a7 (dg q).length c7) 25) := St.new w7 _ _ _
    have R8 : Hid (Row (w7.alloc (.cells #[.bool (ng q), .slice a7 (dg q).length c7] 25)) (.slice a6 (dig r).length c6) (toI (dig r))) := R6.out.old (g7.alloc _)
    have O7 : Hid (Own (w7.alloc (.cells #[.bool (ng q), .slice a7 (dg q).length c7] 25)) wc.heap.size (.slice a7 (dg q).length c7) (toI (dg q))) := o7.alloc _
    have hs3 := g7.size
    clear g7 o7 SC2 SD2 HG2 R5 R6
    go_wp2_with fail
    refine (out_any false (dig r) _ _ R8.out hr40).mono ?_
    rintro e w8 ⟨v8, rfl, g8, o8⟩
    obtain ⟨a8, c8, rfl⟩ := (Own.row o8).sliceN
    have hs8 : w7.heap.size + 1 ≤ w8.heap.size := by have := g8.size; simp at this; omega
    obtain ⟨w9, e9⟩ : ∃ W, W = (w8.alloc (.cells #[.bool false, .slice a8 (dig r).length c8] 25)) := ⟨_, rfl⟩
    have gg : Old w8 w9 := by rw [e9]; exact (Old.refl _).alloc _
    have HG4 : Hid (Old w w9) := Old.trans HG3.out (Old.trans g8 gg)
    have SC4 : Hid (St w9 (w.heap.size + 1 + 1) (.bool false) (.slice none 0 0) 25) := SC3.out.old (Old.trans g8 gg)
    have SD4 : Hid (St w9 (w.heap.size + 1 + 1 + 1) (.bool false) (.slice none 0 0) 25) := SD3.out.old (Old.trans g8 gg)
    have SX4 : Hid (St w9 w7.heap.size (.bool (ng q)) (.slice a7 (dg q).length c7) 25) := SX3.out.old (Old.trans g8 gg)
    have SY4 : Hid (St w9 w8.heap.size (.bool false) (.slice a8 (dig r).length c8) 25) := by rw [e9]; exact St.new w8 _ _ _
    have O9 : Hid (Own w9 wc.heap.size (.slice a7 (dg q).length c7) (toI (dg q))) := O7.out.old (Old.trans g8 gg)
    have O10 : Hid (Own w9 (w7.heap.size + 1) (.slice a8 (dig r).length c8) (toI (dig r))) := (Own.low o8 (by simp)).old gg
    clear g8 gg o8 SC3 SD3 SX3 HG3 O7 R8
    have E9 : Hid (w9 = (w8.alloc (.cells #[.bool false, .slice a8 (dig r).length c8] 25))) := e9
    clear e9
    go_upto_region 8 with fail
    rw [← E9.out]
    have x0 := SX4.out.c0
    have x1 := SX4.out.c1
    have y0 := SY4.out.c0
    have y1 := SY4.out.c1
    have q0 := SC4.out.c0
    have q1 := SC4.out.c1
    have f0 := SC4.out.f0
    have f1 := SC4.out.f1
    have q2 := SD4.out.c0
    have q3 := SD4.out.c1
    have f2 := SD4.out.f0
    have f3 := SD4.out.f1
    have T4 : Hid (St ((((w9.setCell ⟨w.heap.size + 1 + 1, 0, none⟩ (.bool (ng q))).setCell ⟨w.heap.size + 1 + 1, 1, none⟩ (.slice a7 (dg q).length c7)).setCell ⟨w.heap.size + 1 + 1 + 1, 0, none⟩ (.bool false)).setCell ⟨w.heap.size + 1 + 1 + 1, 1, none⟩ (.slice a8 (dig r).length c8)) (w.heap.size + 1 + 1) (.bool (ng q)) (.slice a7 (dg q).length c7) 25) := set_two _ _ (St.set2 SC4.out _ _) (by omega)
    have T5 : Hid (St ((((w9.setCell ⟨w.heap.size + 1 + 1, 0, none⟩ (.bool (ng q))).setCell ⟨w.heap.size + 1 + 1, 1, none⟩ (.slice a7 (dg q).length c7)).setCell ⟨w.heap.size + 1 + 1 + 1, 0, none⟩ (.bool false)).setCell ⟨w.heap.size + 1 + 1 + 1, 1, none⟩ (.slice a8 (dig r).length c8)) (w.heap.size + 1 + 1 + 1) (.bool false) (.slice a8 (dig r).length c8) 25) := St.set2 (x := .bool false) (y := .slice none 0 0) (set_two _ _ SD4.out (by omega)) _ _
    have HO : Hid (Old w ((((w9.setCell ⟨w.heap.size + 1 + 1, 0, none⟩ (.bool (ng q))).setCell ⟨w.heap.size + 1 + 1, 1, none⟩ (.slice a7 (dg q).length c7)).setCell ⟨w.heap.size + 1 + 1 + 1, 0, none⟩ (.bool false)).setCell ⟨w.heap.size + 1 + 1 + 1, 1, none⟩ (.slice a8 (dig r).length c8))) := (((HG4.out.own (p := ⟨w.heap.size + 1 + 1, 0, none⟩) (by simp; omega) _).own (p := ⟨w.heap.size + 1 + 1, 1, none⟩) (by simp; omega) _).own (p := ⟨w.heap.size + 1 + 1 + 1, 0, none⟩) (by simp; omega) _).own (p := ⟨w.heap.size + 1 + 1 + 1, 1, none⟩) (by simp; omega) _
    have H1 : Hid (Own ((((w9.setCell ⟨w.heap.size + 1 + 1, 0, none⟩ (.bool (ng q))).setCell ⟨w.heap.size + 1 + 1, 1, none⟩ (.slice a7 (dg q).length c7)).setCell ⟨w.heap.size + 1 + 1 + 1, 0, none⟩ (.bool false)).setCell ⟨w.heap.size + 1 + 1 + 1, 1, none⟩ (.slice a8 (dig r).length c8)) w.heap.size (.slice a7 (dg q).length c7) (toI (dg q))) := Own.low (own_set2 (own_set2 O9.out (by omega) _ _) (by omega) _ _) (by omega)
    have H2 : Hid (Own ((((w9.setCell ⟨w.heap.size + 1 + 1, 0, none⟩ (.bool (ng q))).setCell ⟨w.heap.size + 1 + 1, 1, none⟩ (.slice a7 (dg q).length c7)).setCell ⟨w.heap.size + 1 + 1 + 1, 0, none⟩ (.bool false)).setCell ⟨w.heap.size + 1 + 1 + 1, 1, none⟩ (.slice a8 (dig r).length c8)) w.heap.size (.slice a8 (dig r).length c8) (toI (dig r))) := Own.low (own_set2 (own_set2 O10.out (by omega) _ _) (by omega) _ _) (by omega)
    go_region
    all_goals
      go_wp2_with fail
      have hRR := HRR.out
      subst hRR
      exact bodyPost_ret (ret_three Try.results15 _ _ rfl rfl rfl T4.out T5.out) rfl ⟨_, _, rfl, Below.drew HO.out, H1.out, H2.out⟩
  · rw [decide_eq_false hd] at cd
    unfold divW at hR
    rw [if_neg hd] at hR
    subst hR
    go_enter Try.func15, Try.ntmps15
    go_wp2_with fail
    refine (cd _ (HV.out.old HA.out) (HU.out.old HA.out)).mono ?_
    rintro e w1 ⟨rfl, g1⟩
    have SC1 : Hid (St w1 (w.heap.size + 1 + 1) (.bool false) (.slice none 0 0) 25) := SC0.out.old g1
    have SD1 : Hid (St w1 (w.heap.size + 1 + 1 + 1) (.bool false) (.slice none 0 0) 25) := SD0.out.old g1
    have HG1 : Hid (Old w w1) := Old.trans HA.out g1
    have q0 := SC1.out.c0
    have q1 := SC1.out.c1
    have f0 := SC1.out.f0
    have f1 := SC1.out.f1
    have q2 := SD1.out.c0
    have q3 := SD1.out.c1
    have f2 := SD1.out.f0
    have f3 := SD1.out.f1
    clear g1 HA SA0 SB0 SC0 SD0 cd
    have T4 : Hid (St ((((w1.setCell ⟨w.heap.size + 1 + 1, 0, none⟩ (.bool false)).setCell ⟨w.heap.size + 1 + 1, 1, none⟩ (.slice none 0 0)).setCell ⟨w.heap.size + 1 + 1 + 1, 0, none⟩ (.bool false)).setCell ⟨w.heap.size + 1 + 1 + 1, 1, none⟩ (.slice none 0 0)) (w.heap.size + 1 + 1) (.bool false) (.slice none 0 0) 25) := set_two _ _ (St.set2 SC1.out (.bool false) (.slice none 0 0)) (by omega)
    have T5 : Hid (St ((((w1.setCell ⟨w.heap.size + 1 + 1, 0, none⟩ (.bool false)).setCell ⟨w.heap.size + 1 + 1, 1, none⟩ (.slice none 0 0)).setCell ⟨w.heap.size + 1 + 1 + 1, 0, none⟩ (.bool false)).setCell ⟨w.heap.size + 1 + 1 + 1, 1, none⟩ (.slice none 0 0)) (w.heap.size + 1 + 1 + 1) (.bool false) (.slice none 0 0) 25) := St.set2 (x := .bool false) (y := .slice none 0 0) (set_two _ _ SD1.out (by omega)) (.bool false) (.slice none 0 0)
    have HO : Hid (Old w ((((w1.setCell ⟨w.heap.size + 1 + 1, 0, none⟩ (.bool false)).setCell ⟨w.heap.size + 1 + 1, 1, none⟩ (.slice none 0 0)).setCell ⟨w.heap.size + 1 + 1 + 1, 0, none⟩ (.bool false)).setCell ⟨w.heap.size + 1 + 1 + 1, 1, none⟩ (.slice none 0 0))) := (((HG1.out.own (p := ⟨w.heap.size + 1 + 1, 0, none⟩) (by simp; omega) _).own (p := ⟨w.heap.size + 1 + 1, 1, none⟩) (by simp; omega) _).own (p := ⟨w.heap.size + 1 + 1 + 1, 0, none⟩) (by simp; omega) _).own (p := ⟨w.heap.size + 1 + 1 + 1, 1, none⟩) (by simp; omega) _
    go_wp2_with fail
    exact bodyPost_ret (ret_three Try.results15 _ _ rfl rfl rfl T4.out T5.out) rfl ⟨_, _, rfl, HO.out, own_nilD _ _, own_nilD _ _⟩
end Go.Proofs.Ytafcffnpobdhgaa
