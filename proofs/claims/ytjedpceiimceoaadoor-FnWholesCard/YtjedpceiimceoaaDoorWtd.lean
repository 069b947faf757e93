/- Proved: the contract of the program's digitsOf: the digits of a size. -/
import Derived.Test.YtjedpceiimceoaaDoorWtb
import Derived.Test.YtjedpceiimceoaaDoorWsh
import Derived.Test.YtjedpceiimceoaaDoorV09
import Derived.Test.YtjedpceiimceoaaDoorSzIn
namespace Go.Proofs.YtjedpceiimceoaaDoor
open Go.ChangeShapes Go.WideShapes Go.ChangeAt Go.RowKit
open M2
set_option linter.unusedVariables false
set_option linter.unusedSimpArgs false
def TabP (W : World) : Prop := Lib.TabIs Tryd.prog W "internal/strconv.uint64pow10" .u64 Lib.pow10Tab
theorem TabP.old {W W' : World} (h : TabP W) (q : Old W W') : TabP W' := by
  unfold TabP Lib.TabIs World.var? at h ⊢
  cases hg : Tryd.prog.globalNamed "internal/strconv.uint64pow10" with
  | none => rw [hg] at h; cases h
  | some g =>
    rw [hg] at h
    simp only [Option.bind_some] at h ⊢
    cases hh : W.heap[g]? with
    | none => rw [hh] at h; cases h
    | some o =>
      have hlt := (Array.getElem?_eq_some_iff.1 hh).1
      rw [q.block g hlt]
      exact h
theorem old_grow (w : World) (k : Nat) (os : Array Obj) : Old w (Sort.grow (w.drewN k) os) := ⟨rfl, rfl, rfl, by simp [Sort.grow], fun b hb => by
  show (w.heap ++ os)[b]? = _
  rw [Array.getElem?_append_left hb]⟩
theorem itoa_c (n : Nat) (hn : n ≤ 1000000000000) (W : World) (hT : TabP W) : Calls Tryd.prog 57 #[.int .i64 (n : Int)] W fun e w' => e = .returned (.string ⟨(Lib.decDigits n).toArray⟩) ∧ Old W w' :=
  (Tryd.strconv_Itoa (n : Int) (by omega) (by omega) W hT).mono fun e w' h => by
    obtain ⟨rfl, k, os, rfl⟩ := h
    have e : Lib.itoa (n : Int) = Lib.decDigits n := by unfold Lib.itoa; rw [if_neg (by omega)]; simp
    rw [e]
    exact ⟨rfl, old_grow W k os⟩
theorem zeros_c (k : Nat) (z : Int) (hz : z = (k : Int)) (hk : k ≤ 1000) (W : World) : Calls Tryd.prog 58 #[.string ⟨#[48]⟩, .int .i64 z] W fun e w' => e = .returned (.string ⟨(List.replicate k (48 : UInt8)).toArray⟩) ∧ Old W w' := by
  subst hz
  refine (Tryd.strings_Repeat ⟨#[48]⟩ k W (by omega) (by show 1 * k ≤ _; omega)).mono fun e w' h => ?_
  obtain ⟨rfl, b⟩ := h
  have e : Lib.repeatL (⟨#[48]⟩ : ByteArray).data.toList k = List.replicate k (48 : UInt8) := by
    have := Lib.repeatL_replicate 48 1 k
    simpa using this
  rw [e]
  exact ⟨rfl, b⟩
def strLen : Value → Nat
  | .string s => s.size
  | _ => 0
set_option maxRecDepth 100000 in
set_option maxHeartbeats 4000000 in
theorem digits_sz (n : Nat) (w : World) (hn : cnt n ≤ 79) (hT : TabP w) (hl : (Lib.decDigits n).length ≤ 100000) :
    Calls Tryd.prog 37 #[.agg (szV n)] w fun e w' => e = .returned (.string ⟨(Lib.decDigits n).toArray⟩) ∧ Old w w' := by
  have HTT : Hid (TabP w) := hT
  have HLL : Hid ((Lib.decDigits n).length ≤ 100000) := hl
  have HP0 : Hid ((pad n).length = 80) := pad_len' (by omega) (by omega)
  clear hT hl
  unfold szV
  go_enter Tryd.func37, Tryd.ntmps37
  go_wp2_with fail
  go_loopw [3] (fun t W => ∃ (m : Nat) (acc : List UInt8), t = .string ⟨acc.toArray⟩ ∧ cnt m ≤ 79 ∧ Hid (Lib.decDigits n = Lib.decDigits m ++ acc) ∧ Hid (Sz W w.heap.size (pad m) (cnt m)) ∧ Hid (Old w W)) (fun t _ => (Lib.decDigits n).length - strLen t)
  case atStart => exact ⟨n, [], rfl, hn, by show _ = _; simp, Sz.new w _ _ HP0.out, (Old.refl w).alloc _⟩
  case round =>
    obtain ⟨m, acc, rfl, hm, HD, HS, HG⟩ := hrel
    go_wp2_with (first | ((with_reducible refine load_sz HS.out ?_ ?_); exact rfl; simp only [Act.put, List.setIfInBounds_toArray, List.set_cons_succ, List.set_cons_zero]))
    refine (word_sz m 100000000 _ (by omega) (by omega) (by omega)).mono ?_
    rintro e w1 ⟨rfl, g1⟩
    obtain ⟨q, hq⟩ : ∃ q, m / 100000000 = q := ⟨_, rfl⟩
    obtain ⟨r, hr⟩ : ∃ r, m % 100000000 = r := ⟨_, rfl⟩
    rw [hq, hr]
    have hr2 : r < 100000000 := by omega
    have hqm : q ≤ m := by rw [← hq]; exact Nat.div_le_self _ _
    have hcq : cnt q ≤ 79 := Nat.le_trans (cnt_mono hqm) hm
    have HPQ : Hid ((pad q).length = 80) := pad_len' (by omega) (by omega)
    have HS1 : Hid (Sz w1 w.heap.size (pad m) (cnt m)) := HS.out.old g1
    have HG1 : Hid (Old w w1) := Old.trans HG.out g1
    have HQ : Hid (m / 100000000 = q) := hq
    have HR : Hid (m % 100000000 = r) := hr
    clear g1 HS HG hq hr
    unfold szV
    go_wp2_with (first | ((with_reducible refine store_sz HS1.out (pad q) (cnt q) HPQ.out ?_ ?_ ?_); exact rfl; exact rfl; simp only [Act.put, List.setIfInBounds_toArray, List.set_cons_succ, List.set_cons_zero]))
    have HS2 : Hid (Sz (w1.setRow w.heap.size (szA (pad q) (cnt q))) w.heap.size (pad q) (cnt q)) := HS1.out.row _ _ HPQ.out
    have HG2 : Hid (Old w (w1.setRow w.heap.size (szA (pad q) (cnt q)))) := Old.row HG1.out (Nat.le_refl _) _
    clear HS1 HG1
    generalize w1.setRow w.heap.size (szA (pad q) (cnt q)) = w2 at *
    refine (itoa_c r (by omega) w2 (HTT.out.old HG2.out)).mono ?_
    rintro e w3 ⟨rfl, g3⟩
    have HS3 : Hid (Sz w3 w.heap.size (pad q) (cnt q)) := HS2.out.old g3
    have HG3 : Hid (Old w w3) := Old.trans HG2.out g3
    have c80 := HS3.out.cnt
    have hdl : (Lib.decDigits r).length ≤ 8 := dec_len 7 r (by omega)
    have hal : acc.length ≤ 100000 := by have h1 := HLL.out; rw [HD.out] at h1; simp at h1; omega
    have HRE : Hid (q = 0 → (⟨(Lib.decDigits r).toArray⟩ : ByteArray) ++ ⟨acc.toArray⟩ = ⟨(Lib.decDigits n).toArray⟩) := fun h0 => by
      rw [ba_app, HD.out, ← HR.out, dec_last 8 m (by have := HQ.out; omega)]
    have HNX : Hid (0 < q → Lib.decDigits n = Lib.decDigits q ++ (List.replicate (8 - (Lib.decDigits r).length) (48 : UInt8) ++ Lib.decDigits r ++ acc)) := fun h0 => by
      have h1 := dec_group 7 m (by have := HQ.out; omega)
      have h2 := HQ.out
      have h3 := HR.out
      rw [HD.out, h1]
      simp only [Nat.reduceAdd, Nat.reducePow]
      rw [h2, h3]
      simp
    obtain ⟨L, hL⟩ : ∃ L, (Lib.decDigits r).length = L := ⟨_, rfl⟩
    obtain ⟨G, hGd⟩ : ∃ G : ByteArray, ⟨(Lib.decDigits r).toArray⟩ = G := ⟨_, rfl⟩
    obtain ⟨A, hAd⟩ : ∃ A : ByteArray, ⟨acc.toArray⟩ = A := ⟨_, rfl⟩
    have HGd : Hid (⟨(Lib.decDigits r).toArray⟩ = G) := hGd
    have HAd : Hid (⟨acc.toArray⟩ = A) := hAd
    have HLd : Hid ((Lib.decDigits r).length = L) := hL
    have sG : G.size = L := by rw [← hGd, ba_size, hL]
    have sA : A.size = acc.length := by rw [← hAd, ba_size]
    have hL8 : L ≤ 8 := by omega
    clear g3 HS2 HG2
    rw [hGd, hAd]
    rcases Nat.eq_zero_or_pos q with h0 | h0
    · have hc0 : cnt q = 0 := by rw [h0]; exact cnt_zero
      rw [hc0] at c80
      have hap : G ++ A = ⟨(Lib.decDigits n).toArray⟩ := by rw [← HGd.out, ← HAd.out]; exact HRE.out h0
      obtain ⟨GA, hGA⟩ : ∃ GA : ByteArray, ⟨(Lib.decDigits n).toArray⟩ = GA := ⟨_, rfl⟩
      rw [hGA] at hap
      have hsz : (G.size : Int) + (A.size : Int) ≤ 9223372036854775807 := by rw [sG, sA]; omega
      have HGA : Hid (⟨(Lib.decDigits n).toArray⟩ = GA) := hGA
      clear hGA HNX HRE HD HS3 hGd hAd hL sG sA hc0
      go_wp2_with fail
      go_ret
      exact ⟨by rw [HGA.out]; rfl, HG3.out⟩
    · have hcp := cnt_pos (show q ≠ 0 by omega)
      have d1 : decide (((cnt q : Nat) : Int) = 0) = false := decide_eq_false (by omega)
      have d2 : decide (cnt q = 0) = false := decide_eq_false (by omega)
      have KZ : ∀ (z : Int), z = ((8 - L : Nat) : Int) → ∀ W, Calls Tryd.prog 58 #[.string ⟨#[48]⟩, .int .i64 z] W fun e w' => e = .returned (.string ⟨(List.replicate (8 - L) (48 : UInt8)).toArray⟩) ∧ Old W w' := fun z hz W => zeros_c (8 - L) z hz (by omega) W
      have hsz1 : (8 : Int) - (G.size : Int) = ((8 - L : Nat) : Int) := by rw [sG]; omega
      have HKZ := Lib.hid KZ
      clear KZ HRE hGd hAd hL
      go_wp2_with fail
      refine (HKZ.out _ (by omega) _).mono ?_
      rintro e w4 ⟨rfl, g4⟩
      have HS4 : Hid (Sz w4 w.heap.size (pad q) (cnt q)) := HS3.out.old g4
      have HG4 : Hid (Old w w4) := Old.trans HG3.out g4
      obtain ⟨Z, hZ⟩ : ∃ Z : ByteArray, ⟨(List.replicate (8 - L) (48 : UInt8)).toArray⟩ = Z := ⟨_, rfl⟩
      have sZ : Z.size = 8 - L := by rw [← hZ, ba_size]; simp
      obtain ⟨ZG, hZG⟩ : ∃ ZG : ByteArray, Z ++ G = ZG := ⟨_, rfl⟩
      obtain ⟨ZGA, hZGA⟩ : ∃ ZGA : ByteArray, ZG ++ A = ZGA := ⟨_, rfl⟩
      have sZG : ZG.size = 8 := by rw [← hZG, ByteArray.size_append, sZ, sG]; omega
      have hs1 : (Z.size : Int) + (G.size : Int) ≤ 9223372036854775807 := by rw [sZ, sG]; omega
      have hs2 : (ZG.size : Int) + (A.size : Int) ≤ 9223372036854775807 := by rw [sZG, sA]; omega
      have hN := HNX.out h0
      rw [HLd.out] at hN
      have HN : Hid (Lib.decDigits n = Lib.decDigits q ++ (List.replicate (8 - L) (48 : UInt8) ++ Lib.decDigits r ++ acc)) := hN
      have HE : Hid (ZGA = ⟨(List.replicate (8 - L) (48 : UInt8) ++ Lib.decDigits r ++ acc).toArray⟩) := by
        show _ = _
        rw [← hZGA, ← hZG, ← hZ, ← HGd.out, ← HAd.out, ba_app, ba_app]
      have HM : Hid (acc.length < (Lib.decDigits n).length ∧ (List.replicate (8 - L) (48 : UInt8) ++ Lib.decDigits r ++ acc).length = 8 + acc.length) := by
        have h1 := dec_len_pos m
        have h2 := congrArg List.length HD.out
        have h3 := HLd.out
        refine ⟨by rw [h2, List.length_append]; omega, ?_⟩
        simp only [List.length_append, List.length_replicate, h3]
        omega
      rw [hZ]
      clear g4 hZ hN HNX HS3 HG3 HKZ HD sZ sG sA sZG
      go_wp2_with fail
      refine ⟨⟨q, List.replicate (8 - L) (48 : UInt8) ++ Lib.decDigits r ++ acc, ?_, hcq, HN, HS4, HG4⟩, ?_⟩
      · show Value.string _ = _
        rw [← HE.out]
      · show (Lib.decDigits n).length - strLen (.string ZGA) < (Lib.decDigits n).length - strLen (.string ⟨acc.toArray⟩)
        have h1 := HM.out
        rw [HE.out]
        show _ - (ByteArray.size _) < _ - (ByteArray.size _)
        rw [ba_size, ba_size]
        omega
end Go.Proofs.YtjedpceiimceoaaDoor
