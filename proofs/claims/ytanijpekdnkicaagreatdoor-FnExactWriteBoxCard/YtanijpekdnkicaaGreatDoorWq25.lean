/- Proved: several texts in one: what each proves is said ahead of it. -/
import Derived.Test.YtanijpekdnkicaaGreatDoorWq16
import Derived.Test.YtanijpekdnkicaaGreatDoorWq14
import Derived.Test.YtanijpekdnkicaaGreatDoorWq12
import Derived.Deep.AppendLies
import Derived.Maps.AppendAt
import Derived.Test.YtanijpekdnkicaaGreatDoorWq20
import Derived.Test.YtanijpekdnkicaaGreatDoorWq10
import Derived.Deep.RegionHeld3
import Derived.Test.YtanijpekdnkicaaGreatDoorWq18
import Derived.Test.YtanijpekdnkicaaGreatDoorWq19
import Derived.KernelRfl
import Derived.Test.YtanijpekdnkicaaGreatDoorWq02
import Derived.Test.YtanijpekdnkicaaGreatDoorWq22
import Derived.Test.YtanijpekdnkicaaGreatDoorWq13
import Derived.Test.YtanijpekdnkicaaGreatDoorWq00
import Derived.Test.YtanijpekdnkicaaGreatDoorWq06
import Derived.Test.YtanijpekdnkicaaGreatDoorSzAdd
import Derived.Test.YtanijpekdnkicaaGreatDoorWq05
import Derived.Deep.DeepCutAuto
import Derived.ScopeJumps
import Derived.Lib.BitFns
import Derived.Test.YtanijpekdnkicaaGreatDoorWq01
import Derived.Test.YtanijpekdnkicaaGreatDoorRows
import Derived.Lib.Walk
import Derived.Test.YtanijpekdnkicaaGreatDoorWq17
import Derived.Test.YtanijpekdnkicaaGreatDoorWq21
import Derived.Test.YtanijpekdnkicaaGreatDoorWq15
import Derived.Deep.RegionWith
import Derived.Deep.QuietTactic
import Derived.BigQuiet
/- Proved: the contract of the program's lifted. -/
namespace Go.Proofs.YtanijpekdnkicaaGreatDoor
open Go.ChangeShapes Go.WideShapes Go.ChangeAt Go.RowKit
open M2
set_option linter.unusedVariables false
set_option linter.unusedSimpArgs false
theorem nat_toI9 (xs : List Nat) : nat (toI xs) = xs := by
  apply List.ext_getElem
  · simp [nat, toI]
  · intro i h1 h2
    simp [nat, toI]
theorem dig_good9 {n : Nat} (hl : cnt n ≤ 40) : Good false (toI (dig n)) := by
  have hn := dig_nrm n
  refine ⟨by rw [toI_len]; exact hl, (fun h => by cases h.2), ?_⟩
  intro j hj
  rw [toI_len] at hj
  have hm : (dig n).getD j 0 ∈ dig n := by simp [List.getD, hj]
  have hb := hn.1 _ hm
  unfold LB at hb
  refine ⟨?_, ?_⟩
  · rw [toI_get]
    omega
  · rw [toI_get, toI_len]
    rintro ⟨h0, h1⟩
    have hne : dig n ≠ [] := by intro e; rw [e] at hj; simp at hj
    apply hn.2 hne
    rw [List.getLast_eq_getElem]
    have h2 : (dig n).getD j 0 = 0 := by omega
    have e : (dig n).length - 1 = j := by omega
    simp only [e]
    rw [← h2]
    simp [List.getD, hj]
end Go.Proofs.YtanijpekdnkicaaGreatDoor
/- Proved: the contract of the model's l9Delta. -/
namespace Go.Proofs.YtanijpekdnkicaaGreatDoor
open Go.ChangeShapes Go.WideShapes Go.ChangeAt Go.RowKit
open M2
set_option linter.unusedVariables false
set_option linter.unusedSimpArgs false
set_option maxRecDepth 100000 in
set_option maxHeartbeats 4000000 in
theorem spec_l9Q (N T E : Int) (P : List Nat) (a0 : Option Addr) (l0 c0 : Nat) (w : World) (hv : Row w (.slice a0 l0 c0) (toZ P)) (hb : Bas P) :
    Calls Tryz.prog 126 #[.agg #[.int .i64 N, .int .i64 T, .int .i64 E, .slice a0 l0 c0]] w fun e w' => ∃ v', e = .returned v' ∧ Old w w' ∧ Row w' v' (toI (dig (prodN P))) := by
  have HK : Hid (∀ W, Old w W → Calls Tryz.prog 145 #[.slice a0 l0 c0] W fun e w' => ∃ v', e = .returned v' ∧ Old W w' ∧ Row w' v' (toI (dig (prodN P)))) := fun W g => spec_product P _ W (hv.old g) hb.len6 hb.hi
  have HA : Hid (Old w (w.alloc (.cells #[.int .i64 N, .int .i64 T, .int .i64 E, .slice a0 l0 c0] 35))) := (Old.refl w).alloc _
  have BA : Hid (Bk (w.alloc (.cells #[.int .i64 N, .int .i64 T, .int .i64 E, .slice a0 l0 c0] 35)) w.heap.size #[.int .i64 N, .int .i64 T, .int .i64 E, .slice a0 l0 c0] 35) := Bk.new' w _ _ rfl
  have x3 := BA.out.c (i := 3) rfl
  clear hv hb
  go_enter Tryz.func126, Tryz.ntmps126
  go_wp2_with fail
  refine (HK.out _ HA.out).mono ?_
  rintro e w1 ⟨v1, rfl, g1, r1⟩
  have HG : Hid (Old w w1) := Old.trans HA.out g1
  have HR : Hid (Row w1 v1 (toI (dig (prodN P)))) := r1
  clear g1 r1 x3
  go_wp2_with fail
  go_ret
  exact ⟨_, rfl, HG.out, HR.out⟩
end Go.Proofs.YtanijpekdnkicaaGreatDoor
/- Proved: contracts of the model's l9Pairs, l12Pairs, l12Plain, l12Cipher and GoodBox. -/
namespace Go.Proofs.YtanijpekdnkicaaGreatDoor
open Go.ChangeShapes Go.WideShapes Go.ChangeAt Go.RowKit
open M1
open M2
set_option linter.unusedVariables false
set_option linter.unusedSimpArgs false
abbrev prG (N : Int) (ps : List Int) (r : PrV) : Bool := rwB N ps r.1 && rwB N ps r.2
def pkB (N : Int) (ps : List Int) (kss : List PrV) : Bool := kss.all (prG N ps)
theorem pkB_no {N : Int} {ps : List Int} {kss : List PrV} (k : Nat) (hk : k < kss.length) (h : prG N ps (pk kss k) = false) : pkB N ps kss = false := by
  unfold pkB
  rw [List.all_eq_false]
  refine ⟨pk kss k, by simp [pk, List.getD, hk], by rw [h]; simp⟩
theorem pkB_yes {N : Int} {ps : List Int} {kss : List PrV} (h : ∀ k, k < kss.length → prG N ps (pk kss k) = true) : pkB N ps kss = true := by
  unfold pkB
  rw [List.all_eq_true]
  intro r hr
  obtain ⟨j, hj, rfl⟩ := List.getElem_of_mem hr
  have := h j hj
  simpa [pk, List.getD, hj] using this
theorem ret_bbK {b : Bool} {c : Bool} (h : c = b) : Ending.returned (.bool b) = .returned (.bool c) := by rw [h]
set_option maxRecDepth 100000 in
set_option maxHeartbeats 4000000 in
theorem l9Pairs_any (N T E : Int) (ps : List Int) (kss : List PrV) (v u : Value) (w : World) (hv : Row w v ps) (hu : RowK w u kss) (hl : kss.length ≤ 1048576) (hr : ∀ r ∈ kss, PrLe 1048576 r) (hs : spB N ps = true) :
    Calls Tryz.prog 36 #[.agg #[.int .i64 N, .int .i64 T, .int .i64 E, v], u] w fun e w' => e = .returned (.bool (decide (kss.length = ps.length) && pkB N ps kss)) ∧ Old w w' := by
  have HV := hidK hv
  have HU := hidK hu
  have HR := hidK hr
  obtain ⟨a0, c0, rfl⟩ := hv.slice
  obtain ⟨a1, c1, rfl⟩ := hu.slice
  have HA : Hid (Old w (w.alloc (.cells #[.int .i64 N, .int .i64 T, .int .i64 E, .slice a0 ps.length c0] 35))) := (Old.refl w).alloc _
  have BA : Hid (Bk (w.alloc (.cells #[.int .i64 N, .int .i64 T, .int .i64 E, .slice a0 ps.length c0] 35)) w.heap.size #[.int .i64 N, .int .i64 T, .int .i64 E, .slice a0 ps.length c0] 35) := Bk.new' w _ _ rfl
  have x3 := BA.out.c (i := 3) rfl
  have KP := hidK (fun (xss yss : List (List Int)) W (g : Old w W) (aA aB : Option Addr) (cA cB : Nat) (hx : RowS W (.slice aA xss.length cA) xss) (hy : RowS W (.slice aB yss.length cB) yss) (hq : PrLe 1048576 (xss, yss)) => spec_l8GoodPair N T E ps xss yss a0 c0 aA aB cA cB W (hv.old g) hx hy (by have : ((xss.length : Nat) : Int) ≤ 1048576 := hq.1.1; omega) (fun r hr => by have : ((r.length : Nat) : Int) ≤ 1048576 := hq.1.2 r hr; omega) (by have : ((yss.length : Nat) : Int) ≤ 1048576 := hq.2.1; omega) (fun r hr => by have : ((r.length : Nat) : Int) ≤ 1048576 := hq.2.2 r hr; omega) hs)
  clear hv hu hr hs
  by_cases hm : kss.length = ps.length
  case neg =>
    have HB : Hid ((decide (kss.length = ps.length) && pkB N ps kss) = false) := by show _ = _; rw [decide_eq_false hm]; rfl
    have d : ((kss.length : Int) != (ps.length : Int)) = true := by simp; omega
    clear hm
    go_enter Tryz.func36, Tryz.ntmps36
    go_wp2_with fail
    go_ret
    exact ⟨ret_bbK HB.out, HA.out⟩
  have d : ((kss.length : Int) != (ps.length : Int)) = false := by simp; omega
  rw [decide_eq_true hm, Bool.true_and]
  have HNo : Hid (∀ k, k < kss.length → prG N ps (pk kss k) = false → pkB N ps kss = false) := fun k hk h => pkB_no k hk h
  have HYes : Hid ((∀ k, k < kss.length → prG N ps (pk kss k) = true) → pkB N ps kss = true) := fun h => pkB_yes h
  generalize pkB N ps kss = R at *
  have HM := hidK hm
  clear hm
  go_enter Tryz.func36, Tryz.ntmps36
  go_wp2_with fail
  go_loopw [15] (fun i W => ∃ k : Nat, k ≤ kss.length ∧ i = .int .i64 k ∧ Hid (∀ j, j < k → prG N ps (pk kss j) = true) ∧ Hid (Old w W) ∧ Hid (Bk W w.heap.size #[.int .i64 N, .int .i64 T, .int .i64 E, .slice a0 ps.length c0] 35)) (fun i _ => kss.length - (intOf i).toNat)
  case atStart => exact ⟨0, by omega, rfl, fun j hj => by omega, HA, BA⟩
  case round =>
    obtain ⟨k, hk, rfl, H1, HG, BK⟩ := hrel
    clear HA BA x3 d
    by_cases hlt : k < kss.length
    · have d1 : decide ((k : Int) < (kss.length : Int)) = true := decide_eq_true (by omega)
      rcases HU.out with ⟨a, cap, e, e2⟩ | ⟨b, o, cap, us, vs, e, hb2, h3, hc⟩
      · subst e2
        simp at hlt
      simp only [Value.slice.injEq, true_and] at e
      obtain ⟨rfl, rfl⟩ := e
      obtain ⟨q1, q2, r1, r2⟩ := hc k hlt
      obtain ⟨a2, c2, e1⟩ := r1.slice
      obtain ⟨a3, c3, e2⟩ := r2.slice
      rw [e1] at q1 r1
      rw [e2] at q2 r2
      have s1 := (HG.out.cell (p := ⟨b, o + k * 2, none⟩) hb2).trans q1
      have s2 := (HG.out.cell (p := ⟨b, o + k * 2 + 1, none⟩) hb2).trans q2
      have R1 := hidK (r1.old HG.out)
      have R2 := hidK (r2.old HG.out)
      have hmem : pk kss k ∈ kss := by simp [pk, List.getD, hlt]
      have HQ := hidK (HR.out _ hmem)
      have HN1 := hidK (HNo.out k hlt)
      have H1s : Hid (prG N ps (pk kss k) = true → ∀ j, j < k + 1 → prG N ps (pk kss j) = true) := fun h j hj => by
        rcases Nat.lt_or_ge j k with h5 | h5
        · exact H1.out j h5
        · obtain rfl : j = k := by omega
          exact h
      clear hc q1 q2 r1 r2 e1 e2 hmem H1
      generalize hpq : pk kss k = q at *
      obtain ⟨xss, yss⟩ := q
      simp only at s1 s2
      obtain ⟨W1, hW1⟩ : ∃ B : World, wr.alloc (.cells #[.slice a2 xss.length c2, .slice a3 yss.length c3] 77) = B := ⟨_, rfl⟩
      have O1 : Old wr W1 := by rw [← hW1]; exact (Old.refl wr).alloc _
      have X1 : Hid (Bk W1 wr.heap.size #[.slice a2 xss.length c2, .slice a3 yss.length c3] 77) := by rw [← hW1]; exact Bk.new' wr _ _ rfl
      have B1 := hidK (BK.out.old O1)
      have G1 := hidK (Old.trans HG.out O1)
      have K1 := hidK (KP.out xss yss W1 G1.out a2 a3 c2 c3 (R1.out.old O1) (R2.out.old O1) HQ.out)
      obtain ⟨kq, hkq⟩ : ∃ k, wr.heap.size = k := ⟨_, rfl⟩
      rw [hkq] at X1
      have y0 := B1.out.c (i := 0) rfl
      have y1 := B1.out.c (i := 1) rfl
      have y2 := B1.out.c (i := 2) rfl
      have y3 := B1.out.c (i := 3) rfl
      have z0 := X1.out.c (i := 0) rfl
      have z1 := X1.out.c (i := 1) rfl
      clear O1 R1 R2 HQ KP
      cases hg : prG N ps (xss, yss)
      · have HF := hidK (HN1.out hg)
        rw [show (rwB N ps xss && rwB N ps yss) = false from hg] at K1
        clear hg H1s HN1
        go_wp2_with fail
        refine K1.out.mono ?_
        rintro e w2 ⟨rfl, g2⟩
        have G2 := hidK (Old.trans G1.out g2)
        clear g2 y0 y1 y2 y3 z0 z1 K1
        go_wp2_with fail
        go_ret
        exact ⟨ret_bbK HF.out, G2.out⟩
      · have HS := hidK (H1s.out hg)
        rw [show (rwB N ps xss && rwB N ps yss) = true from hg] at K1
        clear hg H1s HN1
        go_wp2_with fail
        refine K1.out.mono ?_
        rintro e w2 ⟨rfl, g2⟩
        have G2 := hidK (Old.trans G1.out g2)
        have B2 := hidK (B1.out.old g2)
        clear g2 y0 y1 y2 y3 z0 z1 K1
        go_wp2_with fail
        exact ⟨⟨k + 1, by omega, by go_num, HS, G2, B2⟩, by simp [intOf]; omega⟩
    · have d1 : decide ((k : Int) < (kss.length : Int)) = false := decide_eq_false (by omega)
      obtain rfl : k = kss.length := by omega
      have HF := hidK (HYes.out (fun j hj => H1.out j hj))
      clear HYes HNo
      go_wp2_with fail
      go_ret
      exact ⟨ret_bbK HF.out, HG.out⟩
def plB (kd N T : Int) (pl : List Int) : Bool := if kd = 2 then polyB T N pl else if kd = 4 then wiB N 1 pl else decide (pl.length = 0)
set_option maxRecDepth 100000 in
set_option maxHeartbeats 4000000 in
theorem l12Plain_any (kd N T E : Int) (ps pl : List Int) (xs3 : List (List (List Int))) (sg : Bool) (ls : List Int) (kss : List PrV) (v : Value) (w : World) (hv : BoxW w v kd N T E ps pl xs3 sg ls kss) (hl : pl.length ≤ 1048576) (hT : 2 ≤ T ∧ T ≤ 65536) :
    Calls Tryz.prog 99 #[v] w fun e w' => e = .returned (.bool (plB kd N T pl)) ∧ Old w w' := by
  obtain ⟨a0, c0, a1, c1, a2, c2, a3, c3, a4, c4, rfl, r0, r1, r2, r3, r4⟩ := hv
  have HA : Hid (Old w (w.alloc (.cells #[.int .i64 kd, .int .i64 N, .int .i64 T, .int .i64 E, .slice a0 ps.length c0, .slice a1 pl.length c1, .slice a2 xs3.length c2, .bool sg, .slice a3 ls.length c3, .slice a4 kss.length c4] 59))) := (Old.refl w).alloc _
  have BA : Hid (Bk (w.alloc (.cells #[.int .i64 kd, .int .i64 N, .int .i64 T, .int .i64 E, .slice a0 ps.length c0, .slice a1 pl.length c1, .slice a2 xs3.length c2, .bool sg, .slice a3 ls.length c3, .slice a4 kss.length c4] 59)) w.heap.size #[.int .i64 kd, .int .i64 N, .int .i64 T, .int .i64 E, .slice a0 ps.length c0, .slice a1 pl.length c1, .slice a2 xs3.length c2, .bool sg, .slice a3 ls.length c3, .slice a4 kss.length c4] 59) := Bk.new' w _ _ rfl
  have K2 := hidK (fun W (g : Old w W) => l9Plain_any N T E a0 ps.length c0 pl (.slice a1 pl.length c1) W (r1.old g) (by omega) hT)
  have K4 := hidK (fun W (g : Old w W) => l8List_any N T E a0 ps.length c0 1 pl (.slice a1 pl.length c1) W (r1.old g) (by omega) (by omega) (by omega))
  have x0 := BA.out.c (i := 0) rfl
  have x1 := BA.out.c (i := 1) rfl
  have x2 := BA.out.c (i := 2) rfl
  have x3 := BA.out.c (i := 3) rfl
  have x4 := BA.out.c (i := 4) rfl
  have x5 := BA.out.c (i := 5) rfl
  clear r0 r1 r2 r3 r4
  by_cases h2 : kd = 2
  · subst h2
    rw [show plB 2 N T pl = polyB T N pl from rfl]
    go_enter Tryz.func99, Tryz.ntmps99
    go_wp2_with fail
    refine (K2.out _ HA.out).mono ?_
    rintro e w1 ⟨rfl, g1⟩
    have G1 := hidK (Old.trans HA.out g1)
    clear g1 x0 x1 x2 x3 x4 x5
    go_wp2_with fail
    go_ret
    exact ⟨rfl, G1.out⟩
  by_cases h4 : kd = 4
  · subst h4
    rw [show plB 4 N T pl = wiB N 1 pl from rfl]
    go_enter Tryz.func99, Tryz.ntmps99
    go_wp2_with fail
    refine (K4.out _ HA.out).mono ?_
    rintro e w1 ⟨rfl, g1⟩
    have G1 := hidK (Old.trans HA.out g1)
    clear g1 x0 x1 x2 x3 x4 x5
    go_wp2_with fail
    go_ret
    exact ⟨rfl, G1.out⟩
  have e2 : (kd == 2) = false := by simp [h2]
  have e4 : (kd == 4) = false := by simp [h4]
  rw [show plB kd N T pl = decide (pl.length = 0) by unfold plB; rw [if_neg h2, if_neg h4]]
  have ez : ((pl.length : Int) == 0) = decide (pl.length = 0) := by
    rw [Bool.eq_iff_iff]
    simp
  clear h2 h4
  go_enter Tryz.func99, Tryz.ntmps99
  go_wp2_with fail
  go_ret
  exact ⟨by first | rfl | (rw [← ez]; rfl) | simp, HA.out⟩
end Go.Proofs.YtanijpekdnkicaaGreatDoor
/- Proved: contracts of the model's l12Pairs and l12Cipher. -/
namespace Go.Proofs.YtanijpekdnkicaaGreatDoor
open Go.ChangeShapes Go.WideShapes Go.ChangeAt Go.RowKit
open M1
open M2
set_option linter.unusedVariables false
set_option linter.unusedSimpArgs false
def kcN (kd : Int) (ps : List Int) : Nat := if kd = 5 then 1 else if kd = 6 then ps.length else 0
def kpB (kd N : Int) (ps : List Int) (kss : List PrV) : Bool := decide (kss.length = kcN kd ps) && pkB N ps kss
theorem kpB_nil {N : Int} {ps : List Int} {kd : Int} {kss : List PrV} (h5 : ¬ kd = 5) (h6 : ¬ kd = 6) : kpB kd N ps kss = decide (kss.length = 0) := by
  unfold kpB kcN
  rw [if_neg h5, if_neg h6]
  cases kss <;> rfl
theorem kpB_one {N : Int} {ps : List Int} {kss : List PrV} : kpB 5 N ps kss = (decide (kss.length = 1) && prG N ps (pk kss 0)) := by
  unfold kpB kcN
  rw [if_pos rfl]
  by_cases h : kss.length = 1
  · rw [decide_eq_true h]
    match kss, h with
    | [r], _ => simp [pkB, pk, prG]
  · rw [decide_eq_false h]
    rfl
set_option maxRecDepth 100000 in
set_option maxHeartbeats 4000000 in
theorem l12Pairs_any (kd N T E : Int) (ps pl : List Int) (xs3 : List (List (List Int))) (sg : Bool) (ls : List Int) (kss : List PrV) (v : Value) (w : World) (hv : BoxW w v kd N T E ps pl xs3 sg ls kss) (hl : kss.length ≤ 1048576) (hr : ∀ r ∈ kss, PrLe 1048576 r) (hs : spB N ps = true) :
    Calls Tryz.prog 98 #[v] w fun e w' => e = .returned (.bool (kpB kd N ps kss)) ∧ Old w w' := by
  obtain ⟨a0, c0, a1, c1, a2, c2, a3, c3, a4, c4, rfl, r0, r1, r2, r3, r4⟩ := hv
  have HA : Hid (Old w (w.alloc (.cells #[.int .i64 kd, .int .i64 N, .int .i64 T, .int .i64 E, .slice a0 ps.length c0, .slice a1 pl.length c1, .slice a2 xs3.length c2, .bool sg, .slice a3 ls.length c3, .slice a4 kss.length c4] 59))) := (Old.refl w).alloc _
  have BA : Hid (Bk (w.alloc (.cells #[.int .i64 kd, .int .i64 N, .int .i64 T, .int .i64 E, .slice a0 ps.length c0, .slice a1 pl.length c1, .slice a2 xs3.length c2, .bool sg, .slice a3 ls.length c3, .slice a4 kss.length c4] 59)) w.heap.size #[.int .i64 kd, .int .i64 N, .int .i64 T, .int .i64 E, .slice a0 ps.length c0, .slice a1 pl.length c1, .slice a2 xs3.length c2, .bool sg, .slice a3 ls.length c3, .slice a4 kss.length c4] 59) := Bk.new' w _ _ rfl
  have K6 := hidK (fun W (g : Old w W) => l9Pairs_any N T E ps kss (.slice a0 ps.length c0) (.slice a4 kss.length c4) W (r0.old g) (r4.old g) hl hr hs)
  have x0 := BA.out.c (i := 0) rfl
  have x1 := BA.out.c (i := 1) rfl
  have x2 := BA.out.c (i := 2) rfl
  have x3 := BA.out.c (i := 3) rfl
  have x4 := BA.out.c (i := 4) rfl
  have x9 := BA.out.c (i := 9) rfl
  by_cases h5 : kd = 5
  · subst h5
    rw [kpB_one]
    by_cases h1 : kss.length = 1
    · have e1 : ((kss.length : Int) == 1) = true := by simp; omega
      rw [decide_eq_true h1, Bool.true_and]
      rcases r4 with ⟨a, cap, e, e2⟩ | ⟨b, o, cap, us, vs, e, hb2, h3, hc⟩
      · subst e2
        simp at h1
      simp only [Value.slice.injEq, true_and] at e
      obtain ⟨rfl, rfl⟩ := e
      obtain ⟨q1, q2, s1, s2⟩ := hc 0 (by omega)
      obtain ⟨aA, cA, e2⟩ := s1.slice
      obtain ⟨aB, cB, e3⟩ := s2.slice
      rw [e2] at q1 s1
      rw [e3] at q2 s2
      have hmem : pk kss 0 ∈ kss := by simp [pk, List.getD, show 0 < kss.length by omega]
      have HQ := hr _ hmem
      generalize hpq : pk kss 0 = q at *
      obtain ⟨xss, yss⟩ := q
      simp only at q1 q2
      have q1' : w.cell? ⟨b, o, none⟩ = some (.slice aA xss.length cA) := by simpa using q1
      have q2' : w.cell? ⟨b, o + 1, none⟩ = some (.slice aB yss.length cB) := by simpa using q2
      have KP := hidK (fun W (g : Old w W) => spec_l8GoodPair N T E ps xss yss a0 c0 aA aB cA cB W (r0.old g) (s1.old g) (s2.old g) (by have : ((xss.length : Nat) : Int) ≤ 1048576 := HQ.1.1; omega) (fun r hr => by have : ((r.length : Nat) : Int) ≤ 1048576 := HQ.1.2 r hr; omega) (by have : ((yss.length : Nat) : Int) ≤ 1048576 := HQ.2.1; omega) (fun r hr => by have : ((r.length : Nat) : Int) ≤ 1048576 := HQ.2.2 r hr; omega) hs)
      rw [show (rwB N ps xss && rwB N ps yss) = prG N ps (xss, yss) from rfl] at KP
      have HAS : Hid (∀ W' : World, Old (w.alloc (.cells #[.int .i64 5, .int .i64 N, .int .i64 T, .int .i64 E, .slice a0 ps.length c0, .slice a1 pl.length c1, .slice a2 xs3.length c2, .bool sg, .slice a3 ls.length c3, .slice (some ⟨b, o, none⟩) kss.length c4] 59)) W' → (W'.cell? ⟨w.heap.size, 1, none⟩ = some (.int .i64 N) ∧ W'.cell? ⟨w.heap.size, 2, none⟩ = some (.int .i64 T) ∧ W'.cell? ⟨w.heap.size, 3, none⟩ = some (.int .i64 E) ∧ W'.cell? ⟨w.heap.size, 4, none⟩ = some (.slice a0 ps.length c0) ∧ W'.cell? ⟨w.heap.size, 9, none⟩ = some (.slice (some ⟨b, o, none⟩) kss.length c4) ∧ W'.cell? ⟨b, o, none⟩ = some (.slice aA xss.length cA) ∧ W'.cell? ⟨b, o + 1, none⟩ = some (.slice aB yss.length cB))) := fun W' g => ⟨(BA.out.old g).c (i := 1) rfl, (BA.out.old g).c (i := 2) rfl, (BA.out.old g).c (i := 3) rfl, (BA.out.old g).c (i := 4) rfl, (BA.out.old g).c (i := 9) rfl, ((Old.trans HA.out g).cell (p := ⟨b, o, none⟩) hb2).trans q1', ((Old.trans HA.out g).cell (p := ⟨b, o + 1, none⟩) hb2).trans q2'⟩
      have p1 := (HA.out.cell (p := ⟨b, o, none⟩) hb2).trans q1'
      have p2 := (HA.out.cell (p := ⟨b, o + 1, none⟩) hb2).trans q2'
      generalize prG N ps (xss, yss) = RB at *
      obtain ⟨W1, hW1⟩ : ∃ B : World, w.alloc (.cells #[.int .i64 5, .int .i64 N, .int .i64 T, .int .i64 E, .slice a0 ps.length c0, .slice a1 pl.length c1, .slice a2 xs3.length c2, .bool sg, .slice a3 ls.length c3, .slice (some ⟨b, o, none⟩) kss.length c4] 59) = B := ⟨_, rfl⟩
      obtain ⟨kq, hkq⟩ : ∃ k, w.heap.size = k := ⟨_, rfl⟩
      rw [hW1] at HAS HA x0 x1 x2 x3 x4 x9 p1 p2
      rw [hkq] at HAS x0 x1 x2 x3 x4 x9
      have hl1 : (0 : Int) < (kss.length : Int) := by omega
      clear r0 r1 r2 r3 hc q1 q2 q1' q2' s1 s2 e2 e3 hmem HQ hpq hr hs K6 BA h1
      go_enter Tryz.func98, Tryz.ntmps98
      go_wp2_with fail
      go_region_held3 (fun W' => W'.cell? ⟨kq, 1, none⟩ = some (.int .i64 N) ∧ W'.cell? ⟨kq, 2, none⟩ = some (.int .i64 T) ∧ W'.cell? ⟨kq, 3, none⟩ = some (.int .i64 E) ∧ W'.cell? ⟨kq, 4, none⟩ = some (.slice a0 ps.length c0) ∧ W'.cell? ⟨kq, 9, none⟩ = some (.slice (some ⟨b, o, none⟩) kss.length c4) ∧ W'.cell? ⟨b, o, none⟩ = some (.slice aA xss.length cA) ∧ W'.cell? ⟨b, o + 1, none⟩ = some (.slice aB yss.length cB)) (first | with_reducible exact HAS.out _ GE.out | with_reducible exact HAS.out _ (Below.drew (Old.refl W1)) | with_reducible exact HAS.out _ (Old.refl W1)) (first
        | (go_at_call 77; refine (KP.out _ (Old.trans HA.out (Below.drew (Old.refl W1)))).mono ?_; rintro e w2 ⟨rfl, ge⟩; have GE : Hid (Old W1 w2) := Old.trans (Below.drew (Old.refl W1)) ge; clear ge)
        | fail)
      have G2 := hidK (Old.trans HA.out GE.out)
      go_wp2_with fail
      go_ret
      exact ⟨rfl, G2.out⟩
    · have e1 : ((kss.length : Int) == 1) = false := by simp; omega
      rw [decide_eq_false h1, Bool.false_and]
      obtain ⟨W1, hW1⟩ : ∃ B : World, w.alloc (.cells #[.int .i64 5, .int .i64 N, .int .i64 T, .int .i64 E, .slice a0 ps.length c0, .slice a1 pl.length c1, .slice a2 xs3.length c2, .bool sg, .slice a3 ls.length c3, .slice a4 kss.length c4] 59) = B := ⟨_, rfl⟩
      obtain ⟨kq, hkq⟩ : ∃ k, w.heap.size = k := ⟨_, rfl⟩
      rw [hW1] at BA HA x0 x1 x2 x3 x4 x9
      rw [hkq] at BA x0 x1 x2 x3 x4 x9
      clear r0 r1 r2 r3 r4 hr hs K6 BA h1
      go_enter Tryz.func98, Tryz.ntmps98
      go_wp2_with fail
      go_quiet (fail)
      go_wp2_with fail
      go_ret
      exact ⟨rfl, by first | exact HA.out | exact HA.out.drewN _⟩
  have e5 : (kd == 5) = false := by simp [h5]
  by_cases h6 : kd = 6
  · subst h6
    rw [show kpB 6 N ps kss = (decide (kss.length = ps.length) && pkB N ps kss) from rfl]
    clear hr r0 r1 r2 r3 r4 h5
    generalize (decide (kss.length = ps.length) && pkB N ps kss) = RB at *
    go_enter Tryz.func98, Tryz.ntmps98
    go_wp2_with fail
    refine (K6.out _ HA.out).mono ?_
    rintro e w1 ⟨rfl, g1⟩
    have G1 := hidK (Old.trans HA.out g1)
    clear g1 x0 x1 x2 x3 x4 x9
    go_wp2_with fail
    go_ret
    exact ⟨rfl, G1.out⟩
  have e6 : (kd == 6) = false := by simp [h6]
  rw [kpB_nil h5 h6]
  have ez : ((kss.length : Int) == 0) = decide (kss.length = 0) := by
    rw [Bool.eq_iff_iff]
    simp
  clear h5 h6 r0 r1 r2 r3 r4 hr K6
  go_enter Tryz.func98, Tryz.ntmps98
  go_wp2_with fail
  go_ret
  exact ⟨by first | rfl | (rw [← ez]; rfl) | simp, HA.out⟩
end Go.Proofs.YtanijpekdnkicaaGreatDoor
