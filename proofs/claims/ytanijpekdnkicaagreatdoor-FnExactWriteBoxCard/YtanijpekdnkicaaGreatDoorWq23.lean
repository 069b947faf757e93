/- Proved: several texts in one: what each proves is said ahead of it. -/
import Derived.Test.YtanijpekdnkicaaGreatDoorWq14
import Derived.Test.YtanijpekdnkicaaGreatDoorWq17
import Derived.Deep.RegionHeld3
import Derived.Test.YtanijpekdnkicaaGreatDoorRows
import Derived.WalkKit
import Derived.ProofKit
import Derived.OpenShut
import Derived.Test.YtanijpekdnkicaaGreatDoorWq07
import Derived.Test.YtanijpekdnkicaaGreatDoorWq13
import Derived.Test.YtanijpekdnkicaaGreatDoorWq02
import Derived.Test.YtanijpekdnkicaaGreatDoorWq00
import Derived.Deep.RegionLawGrows
import Derived.Test.YtanijpekdnkicaaGreatDoorWq22
import Derived.Test.YtanijpekdnkicaaGreatDoorWq06
import Derived.Test.YtanijpekdnkicaaGreatDoorSzAdd
import Derived.Test.YtanijpekdnkicaaGreatDoorWq05
import Derived.Deep.DeepCutAuto
import Derived.ScopeJumps
import Derived.Test.YtanijpekdnkicaaGreatDoorWq12
import Derived.Lib.BitFns
import Derived.Test.YtanijpekdnkicaaGreatDoorWq01
import Derived.Lib.Walk
import Derived.Test.YtanijpekdnkicaaGreatDoorWq10
import Derived.Test.YtanijpekdnkicaaGreatDoorWq25
import Derived.Test.YtanijpekdnkicaaGreatDoorWq19
/- Proved: contracts of the program's columnOf and WholesOf. -/
namespace Go.Proofs.YtanijpekdnkicaaGreatDoor
open Go.ChangeShapes Go.WideShapes Go.ChangeAt Go.RowKit
open M2
set_option linter.unusedVariables false
set_option linter.unusedSimpArgs false
def pnN (ps : List Int) : List Nat := ps.map Int.toNat
end Go.Proofs.YtanijpekdnkicaaGreatDoor
/- Proved: contracts of the model's l12Cipher and GoodBox. -/
namespace Go.Proofs.YtanijpekdnkicaaGreatDoor
open Go.ChangeShapes Go.WideShapes Go.ChangeAt Go.RowKit
open M1
open M2
set_option linter.unusedVariables false
set_option linter.unusedSimpArgs false
theorem eq0_len {n : Nat} : ((n : Int) == 0) = decide (n = 0) := by
  rw [Bool.eq_iff_iff]
  simp
theorem inQ_dec {x lo hi : Int} : inQ x lo hi = decide (lo ≤ x ∧ x ≤ hi) := by
  rw [Bool.eq_iff_iff]
  simp [inQ]
def bdC (ps ls : List Int) : Int := cmpN (val (nat ls)) (prodN (pnN ps))
def bdB (ps : List Int) (sg : Bool) (ls : List Int) : Bool := decide (Good sg ls) && (!sg && decide (bdC ps ls ≤ 0))
def noC (xs3 : List (List (List Int))) (sg : Bool) (ls : List Int) : Bool := decide (xs3.length = 0) && (decide (ls.length = 0) && !sg)
def ccB (kd N : Int) (ps : List Int) (xs3 : List (List (List Int))) (sg : Bool) (ls : List Int) : Bool := if kd = 3 then ciB N ps xs3 && bdB ps sg ls else noC xs3 sg ls
set_option maxRecDepth 100000 in
set_option maxHeartbeats 4000000 in
theorem l12Cipher_any (kd N T E : Int) (ps pl : List Int) (xs3 : List (List (List Int))) (sg : Bool) (ls : List Int) (kss : List PrV) (v : Value) (w : World) (hv : BoxW w v kd N T E ps pl xs3 sg ls kss) (hl : xs3.length ≤ 1048576) (hr : ∀ r ∈ xs3, r.length ≤ 1048576 ∧ ∀ q ∈ r, q.length ≤ 1048576) (hll : ls.length ≤ 1048576) (hs : spB N ps = true) :
    Calls Tryz.prog 97 #[v] w fun e w' => e = .returned (.bool (ccB kd N ps xs3 sg ls)) ∧ Old w w' := by
  obtain ⟨a0, c0, a1, c1, a2, c2, a3, c3, a4, c4, rfl, r0, r1, r2, r3, r4⟩ := hv
  have HA : Hid (Old w (w.alloc (.cells #[.int .i64 kd, .int .i64 N, .int .i64 T, .int .i64 E, .slice a0 ps.length c0, .slice a1 pl.length c1, .slice a2 xs3.length c2, .bool sg, .slice a3 ls.length c3, .slice a4 kss.length c4] 59))) := (Old.refl w).alloc _
  have BA : Hid (Bk (w.alloc (.cells #[.int .i64 kd, .int .i64 N, .int .i64 T, .int .i64 E, .slice a0 ps.length c0, .slice a1 pl.length c1, .slice a2 xs3.length c2, .bool sg, .slice a3 ls.length c3, .slice a4 kss.length c4] 59)) w.heap.size #[.int .i64 kd, .int .i64 N, .int .i64 T, .int .i64 E, .slice a0 ps.length c0, .slice a1 pl.length c1, .slice a2 xs3.length c2, .bool sg, .slice a3 ls.length c3, .slice a4 kss.length c4] 59) := Bk.new' w _ _ rfl
  have K1 := hidK (fun W (g : Old w W) => l9Cipher_any N T E ps xs3 (.slice a0 ps.length c0) (.slice a2 xs3.length c2) W (r0.old g) (r2.old g) hl hr hs)
  have K2 := hidK (fun W (g : Old w W) => good_any sg ls (.slice a3 ls.length c3) W (r3.old g) hll)
  obtain ⟨qs, eqs, hbs⟩ := basB_yes (sp_ring hs).2.1
  have K3 := hidK (fun W (g : Old w W) => spec_l9Q N T E qs a0 ps.length c0 W (by rw [← eqs]; exact r0.old g) hbs)
  have hqs : pnN ps = qs := by unfold pnN; rw [eqs]; exact toZ_back qs
  clear eqs
  have HR3 := hidK r3
  by_cases h3 : kd = 3
  · subst h3
    rw [show ccB 3 N ps xs3 sg ls = (ciB N ps xs3 && bdB ps sg ls) from rfl]
    obtain ⟨W1, hW1⟩ : ∃ B : World, w.alloc (.cells #[.int .i64 3, .int .i64 N, .int .i64 T, .int .i64 E, .slice a0 ps.length c0, .slice a1 pl.length c1, .slice a2 xs3.length c2, .bool sg, .slice a3 ls.length c3, .slice a4 kss.length c4] 59) = B := ⟨_, rfl⟩
    obtain ⟨kp, hkp⟩ : ∃ k, w.heap.size = k := ⟨_, rfl⟩
    rw [hW1] at BA HA
    rw [hkp] at BA
    have x0 := BA.out.c (i := 0) rfl
    have hprod : cnt (prodN qs) ≤ 40 := by
      have := hbs.cnt
      omega
    clear r0 r1 r2 r3 r4 hr hl hs
    cases hC : ciB N ps xs3
    · rw [hC] at K1
      rw [Bool.false_and]
      clear hC K2 K3
      go_enter Tryz.func97, Tryz.ntmps97
      go_wp2_with fail
      refine reg_Lca W1 kp 3 N T E a0 ps.length c0 a1 pl.length c1 a2 xs3.length c2 sg a3 ls.length c3 a4 kss.length c4 BA.out (fun W q => K1.out W (Old.trans HA.out q)) _ _ ?_ ?_ ?_
      iterate 2 (· exact rfl)
      intro us W g
      have G2 := hidK (Old.trans HA.out g)
      simp only [putAll, Act.put, slotLca, List.range, List.range.loop, List.map_cons, List.map_nil, List.getD_cons_zero, List.getD_cons_succ, List.setIfInBounds_toArray, List.set_cons_succ, List.set_cons_zero]
      go_wp2_with fail
      go_ret
      exact ⟨rfl, G2.out⟩
    rw [hC] at K1
    rw [Bool.true_and]
    by_cases hG : Good sg ls
    case neg =>
      rw [show bdB ps sg ls = false by unfold bdB; rw [decide_eq_false hG]; rfl]
      rw [decide_eq_false hG] at K2
      clear hC hG K3
      go_enter Tryz.func97, Tryz.ntmps97
      go_wp2_with fail
      refine reg_Lcb W1 kp 3 N T E a0 ps.length c0 a1 pl.length c1 a2 xs3.length c2 sg a3 ls.length c3 a4 kss.length c4 BA.out (fun W q => K1.out W (Old.trans HA.out q)) (fun W q => K2.out W (Old.trans HA.out q)) _ _ ?_ ?_ ?_
      iterate 2 (· exact rfl)
      intro us W g
      have G2 := hidK (Old.trans HA.out g)
      simp only [putAll, Act.put, slotLcb, List.range, List.range.loop, List.map_cons, List.map_nil, List.getD_cons_zero, List.getD_cons_succ, List.setIfInBounds_toArray, List.set_cons_succ, List.set_cons_zero]
      go_wp2_with fail
      go_ret
      exact ⟨rfl, G2.out⟩
    obtain ⟨eG, gG, lG⟩ := good_gw hG
    cases sg
    case true =>
      rw [show bdB ps true ls = false by unfold bdB; simp]
      rw [decide_eq_true hG] at K2
      clear hC hG K3 eG gG lG
      go_enter Tryz.func97, Tryz.ntmps97
      go_wp2_with fail
      refine reg_Lcc W1 kp 3 N T E a0 ps.length c0 a1 pl.length c1 a2 xs3.length c2 a3 ls.length c3 a4 kss.length c4 BA.out (fun W q => K1.out W (Old.trans HA.out q)) (fun W q => K2.out W (Old.trans HA.out q)) _ _ ?_ ?_ ?_
      iterate 2 (· exact rfl)
      intro us W g
      have G2 := hidK (Old.trans HA.out g)
      simp only [putAll, Act.put, slotLcc, List.range, List.range.loop, List.map_cons, List.map_nil, List.getD_cons_zero, List.getD_cons_succ, List.setIfInBounds_toArray, List.set_cons_succ, List.set_cons_zero]
      go_wp2_with fail
      go_ret
      exact ⟨rfl, G2.out⟩
    case false =>
      rw [show bdB ps false ls = decide (bdC ps ls ≤ 0) by unfold bdB; rw [decide_eq_true hG]; rfl]
      rw [decide_eq_true hG] at K2
      have K4 := hidK (fun W u (g : Old w W) (h : Row W u (toI (dig (prodN qs)))) => cmp_any (nat ls) (dig (prodN qs)) (.slice a3 ls.length c3) u W (by rw [eG]; exact HR3.out.old g) h gG.1 (gw_of ((prodN qs : Nat) : Int)).1 (by omega) (by show cnt (prodN qs) ≤ _; omega))
      rw [show val (dig (prodN qs)) = prodN qs from val_dig _, show cmpN (val (nat ls)) (prodN qs) = bdC ps ls by unfold bdC; rw [hqs]] at K4
      clear hC hG eG gG lG
      generalize bdC ps ls = cc at *
      go_enter Tryz.func97, Tryz.ntmps97
      go_wp2_with fail
      refine reg_Lcd W1 kp 3 N T E a0 ps.length c0 a1 pl.length c1 a2 xs3.length c2 a3 ls.length c3 a4 kss.length c4 cc (fun W u => Row W u (toI (dig (prodN qs)))) (fun W W' u h q => h.old q) BA.out (fun W q => K1.out W (Old.trans HA.out q)) (fun W q => K2.out W (Old.trans HA.out q)) (fun W q => K3.out W (Old.trans HA.out q)) (fun W q u hu => K4.out W u (Old.trans HA.out q) hu) _ _ ?_ ?_ ?_
      iterate 2 (· exact rfl)
      intro us W g
      have G2 := hidK (Old.trans HA.out g)
      simp only [putAll, Act.put, slotLcd, List.range, List.range.loop, List.map_cons, List.map_nil, List.getD_cons_zero, List.getD_cons_succ, List.setIfInBounds_toArray, List.set_cons_succ, List.set_cons_zero]
      go_wp2_with fail
      go_ret
      exact ⟨rfl, G2.out⟩
  have e3 : (kd != 3) = true := by simp [h3]
  rw [show ccB kd N ps xs3 sg ls = noC xs3 sg ls by unfold ccB; rw [if_neg h3]]
  have x0 := BA.out.c (i := 0) rfl
  have x6 := BA.out.c (i := 6) rfl
  have x7 := BA.out.c (i := 7) rfl
  have x8 := BA.out.c (i := 8) rfl
  clear h3 r0 r1 r2 r3 r4 hr K1 K2 K3 HR3
  by_cases h1 : xs3.length = 0
  · have d1 : ((xs3.length : Int) == 0) = true := by rw [eq0_len, decide_eq_true h1]
    by_cases h2 : ls.length = 0
    · have d2 : ((ls.length : Int) == 0) = true := by rw [eq0_len, decide_eq_true h2]
      rw [show noC xs3 sg ls = !sg by unfold noC; rw [decide_eq_true h1, decide_eq_true h2]; rfl]
      clear h1 h2
      go_enter Tryz.func97, Tryz.ntmps97
      go_wp2_with fail
      go_ret
      exact ⟨rfl, HA.out⟩
    · have d2 : ((ls.length : Int) == 0) = false := by rw [eq0_len, decide_eq_false h2]
      rw [show noC xs3 sg ls = false by unfold noC; rw [decide_eq_true h1, decide_eq_false h2]; rfl]
      clear h1 h2
      go_enter Tryz.func97, Tryz.ntmps97
      go_wp2_with fail
      go_ret
      exact ⟨rfl, HA.out⟩
  · have d1 : ((xs3.length : Int) == 0) = false := by rw [eq0_len, decide_eq_false h1]
    rw [show noC xs3 sg ls = false by unfold noC; rw [decide_eq_false h1]; rfl]
    clear h1
    go_enter Tryz.func97, Tryz.ntmps97
    go_wp2_with fail
    go_ret
    exact ⟨rfl, HA.out⟩
def bxB (kd N T E : Int) (ps pl : List Int) (xs3 : List (List (List Int))) (sg : Bool) (ls : List Int) (kss : List PrV) : Bool := decide (1 ≤ kd ∧ kd ≤ 6) && (prB N T E ps && (ccB kd N ps xs3 sg ls && (kpB kd N ps kss && plB kd N T pl)))
def BoxQ (w : World) (v : Value) (kd N T E : Int) (ps pl : List Int) (xs3 : List (List (List Int))) (sg : Bool) (ls : List Int) (kss : List PrV) : Prop := ∃ (a0 : Option Addr) (c0 : Nat) (a1 : Option Addr) (c1 : Nat) (a2 : Option Addr) (c2 : Nat) (a3 : Option Addr) (c3 : Nat) (a4 : Option Addr) (c4 : Nat), v = .agg #[.int .i64 kd, .int .i64 N, .int .i64 T, .int .i64 E, .slice a0 ps.length c0, .slice a1 pl.length c1, .slice a2 xs3.length c2, .bool sg, .slice a3 ls.length c3, .slice a4 kss.length c4] ∧ Fit (.slice a0 ps.length c0) ∧ BoxW w v kd N T E ps pl xs3 sg ls kss
theorem BoxQ.old {w w' : World} {v : Value} {kd N T E : Int} {ps pl : List Int} {xs3 : List (List (List Int))} {sg : Bool} {ls : List Int} {kss : List PrV} (h : BoxQ w v kd N T E ps pl xs3 sg ls kss) (g : Old w w') : BoxQ w' v kd N T E ps pl xs3 sg ls kss := by
  obtain ⟨a0, c0, a1, c1, a2, c2, a3, c3, a4, c4, e, f, b⟩ := h
  exact ⟨a0, c0, a1, c1, a2, c2, a3, c3, a4, c4, e, f, b.old g⟩
theorem XBx.boxQ {kd N T E : Int} {ps pl : List Int} {xs3 : List (List (List Int))} {sg : Bool} {ls : List Int} {kss : List PrV} {W : World} {lo hi : Nat} {g : Array Value} (h : XBx kd N T E ps pl xs3 sg ls kss W lo hi g) : BoxQ W (.agg g) kd N T E ps pl xs3 sg ls kss := by
  have hb := h.boxW
  obtain ⟨a0, c0, a1, c1, a2, c2, a3, c3, a4, c4, m1, m2, m3, m4, e, hm, ⟨x, y, e0, o, f⟩, _⟩ := h
  simp at e0
  obtain ⟨rfl, rfl⟩ := e0
  exact ⟨a0, c0, a1, c1, a2, c2, a3, c3, a4, c4, by rw [e], f, hb⟩
set_option maxRecDepth 100000 in
set_option maxHeartbeats 4000000 in
theorem spec_goodBox (kd N T E : Int) (ps pl : List Int) (xs3 : List (List (List Int))) (sg : Bool) (ls : List Int) (kss : List PrV) (v : Value) (w : World) (hv : BoxQ w v kd N T E ps pl xs3 sg ls kss) (hl : BoxLe 1048576 ps pl xs3 ls kss) (hx : ∀ x ∈ ps, -9223372036854775808 ≤ x ∧ x ≤ 9223372036854775807) :
    Calls Tryz.prog 63 #[v] w fun e w' => e = .returned (.bool (bxB kd N T E ps pl xs3 sg ls kss)) ∧ Old w w' := by
  obtain ⟨a0, c0, a1, c1, a2, c2, a3, c3, a4, c4, rfl, hf, hv⟩ := hv
  have hr0 : Row w (.slice a0 ps.length c0) ps := by
    obtain ⟨b0, d0, b1, d1, b2, d2, b3, d3, b4, d4, e, h, _⟩ := hv
    simp at e
    obtain ⟨⟨rfl, rfl⟩, _⟩ := e
    exact h
  obtain ⟨l0, l1, l2, l2', l3, l4, l4'⟩ := hl
  have K1 := hidK (fun W => in_any kd 1 6 W)
  have K2 := hidK (fun W (g : Old w W) => spec_goodParams N T E ps (.slice a0 ps.length c0) W (hr0.old g) hf (by omega) hx)
  have K3 := hidK (fun (h : spB N ps = true) W (g : Old w W) => l12Cipher_any kd N T E ps pl xs3 sg ls kss (.agg #[.int .i64 kd, .int .i64 N, .int .i64 T, .int .i64 E, .slice a0 ps.length c0, .slice a1 pl.length c1, .slice a2 xs3.length c2, .bool sg, .slice a3 ls.length c3, .slice a4 kss.length c4]) W (hv.old g) l2 l2' l3 h)
  have K4 := hidK (fun (h : spB N ps = true) W (g : Old w W) => l12Pairs_any kd N T E ps pl xs3 sg ls kss (.agg #[.int .i64 kd, .int .i64 N, .int .i64 T, .int .i64 E, .slice a0 ps.length c0, .slice a1 pl.length c1, .slice a2 xs3.length c2, .bool sg, .slice a3 ls.length c3, .slice a4 kss.length c4]) W (hv.old g) l4 l4' h)
  have K5 := hidK (fun (h : 2 ≤ T ∧ T ≤ 65536) W (g : Old w W) => l12Plain_any kd N T E ps pl xs3 sg ls kss (.agg #[.int .i64 kd, .int .i64 N, .int .i64 T, .int .i64 E, .slice a0 ps.length c0, .slice a1 pl.length c1, .slice a2 xs3.length c2, .bool sg, .slice a3 ls.length c3, .slice a4 kss.length c4]) W (hv.old g) l1 h)
  have HA : Hid (Old w (w.alloc (.cells #[.int .i64 kd, .int .i64 N, .int .i64 T, .int .i64 E, .slice a0 ps.length c0, .slice a1 pl.length c1, .slice a2 xs3.length c2, .bool sg, .slice a3 ls.length c3, .slice a4 kss.length c4] 59))) := (Old.refl w).alloc _
  have BA : Hid (Bk (w.alloc (.cells #[.int .i64 kd, .int .i64 N, .int .i64 T, .int .i64 E, .slice a0 ps.length c0, .slice a1 pl.length c1, .slice a2 xs3.length c2, .bool sg, .slice a3 ls.length c3, .slice a4 kss.length c4] 59)) w.heap.size #[.int .i64 kd, .int .i64 N, .int .i64 T, .int .i64 E, .slice a0 ps.length c0, .slice a1 pl.length c1, .slice a2 xs3.length c2, .bool sg, .slice a3 ls.length c3, .slice a4 kss.length c4] 59) := Bk.new' w _ _ rfl
  obtain ⟨W1, hW1⟩ : ∃ B : World, w.alloc (.cells #[.int .i64 kd, .int .i64 N, .int .i64 T, .int .i64 E, .slice a0 ps.length c0, .slice a1 pl.length c1, .slice a2 xs3.length c2, .bool sg, .slice a3 ls.length c3, .slice a4 kss.length c4] 59) = B := ⟨_, rfl⟩
  obtain ⟨kp, hkp⟩ : ∃ k, w.heap.size = k := ⟨_, rfl⟩
  rw [hW1] at BA HA
  rw [hkp] at BA
  have x0 := BA.out.c (i := 0) rfl
  clear hv hr0 hf hx l0 l1 l2 l2' l3 l4 l4'
  unfold bxB
  cases hk : inQ kd 1 6
  · rw [hk] at K1
    have e1 : decide (1 ≤ kd ∧ kd ≤ 6) = false := by rw [← inQ_dec]; exact hk
    rw [e1, Bool.false_and]
    clear hk e1
    go_enter Tryz.func63, Tryz.ntmps63
    go_wp2_with fail
    refine (K1.out _).mono ?_
    rintro e w1 ⟨rfl, h1⟩
    subst h1
    go_wp2_with fail
    go_ret
    exact ⟨rfl, HA.out⟩
  rw [hk] at K1
  have e1 : decide (1 ≤ kd ∧ kd ≤ 6) = true := by rw [← inQ_dec]; exact hk
  rw [e1, Bool.true_and]
  clear hk e1
  cases hp : prB N T E ps
  · rw [hp] at K2
    rw [Bool.false_and]
    clear hp
    have x1 := BA.out.c (i := 1) rfl
    have x2 := BA.out.c (i := 2) rfl
    have x3 := BA.out.c (i := 3) rfl
    have x4 := BA.out.c (i := 4) rfl
    go_enter Tryz.func63, Tryz.ntmps63
    go_wp2_with fail
    refine (K1.out _).mono ?_
    rintro e w1 ⟨rfl, h1⟩
    subst h1
    go_wp2_with fail
    refine (K2.out _ HA.out).mono ?_
    rintro e w2 ⟨rfl, g2⟩
    have G2 := hidK (Old.trans HA.out g2)
    clear g2
    go_wp2_with fail
    go_ret
    exact ⟨rfl, G2.out⟩
  rw [hp] at K2
  rw [Bool.true_and]
  have K3' := hidK (K3.out (prB_sp hp))
  have K4' := hidK (K4.out (prB_sp hp))
  have K5' := hidK (K5.out (prB_T hp))
  clear hp K3 K4 K5
  generalize ccB kd N ps xs3 sg ls = B3 at *
  generalize kpB kd N ps kss = B4 at *
  generalize plB kd N T pl = B5 at *
  cases B3
  · rw [Bool.false_and]
    go_enter Tryz.func63, Tryz.ntmps63
    go_wp2_with fail
    refine (K1.out _).mono ?_
    rintro e w1 ⟨rfl, h1⟩
    subst h1
    have y1 := BA.out.c (i := 1) rfl
    have y2 := BA.out.c (i := 2) rfl
    have y3 := BA.out.c (i := 3) rfl
    have y4 := BA.out.c (i := 4) rfl
    go_wp2_with fail
    refine (K2.out _ HA.out).mono ?_
    rintro e w2 ⟨rfl, g2⟩
    have G2 := hidK (Old.trans HA.out g2)
    have P2 := hidK (BA.out.old g2)
    clear g2 y1 y2 y3 y4 x0
    have y0 := P2.out.c (i := 0) rfl
    have y1 := P2.out.c (i := 1) rfl
    have y2 := P2.out.c (i := 2) rfl
    have y3 := P2.out.c (i := 3) rfl
    have y4 := P2.out.c (i := 4) rfl
    have y5 := P2.out.c (i := 5) rfl
    have y6 := P2.out.c (i := 6) rfl
    have y7 := P2.out.c (i := 7) rfl
    have y8 := P2.out.c (i := 8) rfl
    have y9 := P2.out.c (i := 9) rfl
    go_wp2_with fail
    refine (K3'.out _ G2.out).mono ?_
    rintro e w3 ⟨rfl, g3⟩
    have G3 := hidK (Old.trans G2.out g3)
    have P3 := hidK (P2.out.old g3)
    clear g3 y0 y1 y2 y3 y4 y5 y6 y7 y8 y9
    go_wp2_with fail
    go_ret
    exact ⟨rfl, G3.out⟩
  rw [Bool.true_and]
  cases B4
  · rw [Bool.false_and]
    go_enter Tryz.func63, Tryz.ntmps63
    go_wp2_with fail
    refine (K1.out _).mono ?_
    rintro e w1 ⟨rfl, h1⟩
    subst h1
    have y1 := BA.out.c (i := 1) rfl
    have y2 := BA.out.c (i := 2) rfl
    have y3 := BA.out.c (i := 3) rfl
    have y4 := BA.out.c (i := 4) rfl
    go_wp2_with fail
    refine (K2.out _ HA.out).mono ?_
    rintro e w2 ⟨rfl, g2⟩
    have G2 := hidK (Old.trans HA.out g2)
    have P2 := hidK (BA.out.old g2)
    clear g2 y1 y2 y3 y4 x0
    have y0 := P2.out.c (i := 0) rfl
    have y1 := P2.out.c (i := 1) rfl
    have y2 := P2.out.c (i := 2) rfl
    have y3 := P2.out.c (i := 3) rfl
    have y4 := P2.out.c (i := 4) rfl
    have y5 := P2.out.c (i := 5) rfl
    have y6 := P2.out.c (i := 6) rfl
    have y7 := P2.out.c (i := 7) rfl
    have y8 := P2.out.c (i := 8) rfl
    have y9 := P2.out.c (i := 9) rfl
    go_wp2_with fail
    refine (K3'.out _ G2.out).mono ?_
    rintro e w3 ⟨rfl, g3⟩
    have G3 := hidK (Old.trans G2.out g3)
    have P3 := hidK (P2.out.old g3)
    clear g3 y0 y1 y2 y3 y4 y5 y6 y7 y8 y9
    have y0 := P3.out.c (i := 0) rfl
    have y1 := P3.out.c (i := 1) rfl
    have y2 := P3.out.c (i := 2) rfl
    have y3 := P3.out.c (i := 3) rfl
    have y4 := P3.out.c (i := 4) rfl
    have y5 := P3.out.c (i := 5) rfl
    have y6 := P3.out.c (i := 6) rfl
    have y7 := P3.out.c (i := 7) rfl
    have y8 := P3.out.c (i := 8) rfl
    have y9 := P3.out.c (i := 9) rfl
    go_wp2_with fail
    refine (K4'.out _ G3.out).mono ?_
    rintro e w4 ⟨rfl, g4⟩
    have G4 := hidK (Old.trans G3.out g4)
    have P4 := hidK (P3.out.old g4)
    clear g4 y0 y1 y2 y3 y4 y5 y6 y7 y8 y9
    go_wp2_with fail
    go_ret
    exact ⟨rfl, G4.out⟩
  rw [Bool.true_and]
  go_enter Tryz.func63, Tryz.ntmps63
  go_wp2_with fail
  refine (K1.out _).mono ?_
  rintro e w1 ⟨rfl, h1⟩
  subst h1
  have y1 := BA.out.c (i := 1) rfl
  have y2 := BA.out.c (i := 2) rfl
  have y3 := BA.out.c (i := 3) rfl
  have y4 := BA.out.c (i := 4) rfl
  go_wp2_with fail
  refine (K2.out _ HA.out).mono ?_
  rintro e w2 ⟨rfl, g2⟩
  have G2 := hidK (Old.trans HA.out g2)
  have P2 := hidK (BA.out.old g2)
  clear g2 y1 y2 y3 y4 x0
  have y0 := P2.out.c (i := 0) rfl
  have y1 := P2.out.c (i := 1) rfl
  have y2 := P2.out.c (i := 2) rfl
  have y3 := P2.out.c (i := 3) rfl
  have y4 := P2.out.c (i := 4) rfl
  have y5 := P2.out.c (i := 5) rfl
  have y6 := P2.out.c (i := 6) rfl
  have y7 := P2.out.c (i := 7) rfl
  have y8 := P2.out.c (i := 8) rfl
  have y9 := P2.out.c (i := 9) rfl
  go_wp2_with fail
  refine (K3'.out _ G2.out).mono ?_
  rintro e w3 ⟨rfl, g3⟩
  have G3 := hidK (Old.trans G2.out g3)
  have P3 := hidK (P2.out.old g3)
  clear g3 y0 y1 y2 y3 y4 y5 y6 y7 y8 y9
  have y0 := P3.out.c (i := 0) rfl
  have y1 := P3.out.c (i := 1) rfl
  have y2 := P3.out.c (i := 2) rfl
  have y3 := P3.out.c (i := 3) rfl
  have y4 := P3.out.c (i := 4) rfl
  have y5 := P3.out.c (i := 5) rfl
  have y6 := P3.out.c (i := 6) rfl
  have y7 := P3.out.c (i := 7) rfl
  have y8 := P3.out.c (i := 8) rfl
  have y9 := P3.out.c (i := 9) rfl
  go_wp2_with fail
  refine (K4'.out _ G3.out).mono ?_
  rintro e w4 ⟨rfl, g4⟩
  have G4 := hidK (Old.trans G3.out g4)
  have P4 := hidK (P3.out.old g4)
  clear g4 y0 y1 y2 y3 y4 y5 y6 y7 y8 y9
  have y0 := P4.out.c (i := 0) rfl
  have y1 := P4.out.c (i := 1) rfl
  have y2 := P4.out.c (i := 2) rfl
  have y3 := P4.out.c (i := 3) rfl
  have y4 := P4.out.c (i := 4) rfl
  have y5 := P4.out.c (i := 5) rfl
  have y6 := P4.out.c (i := 6) rfl
  have y7 := P4.out.c (i := 7) rfl
  have y8 := P4.out.c (i := 8) rfl
  have y9 := P4.out.c (i := 9) rfl
  go_wp2_with fail
  refine (K5'.out _ G4.out).mono ?_
  rintro e w5 ⟨rfl, g5⟩
  have G5 := hidK (Old.trans G4.out g5)
  have P5 := hidK (P4.out.old g5)
  clear g5 y0 y1 y2 y3 y4 y5 y6 y7 y8 y9
  go_wp2_with fail
  go_ret
  exact ⟨rfl, G5.out⟩
end Go.Proofs.YtanijpekdnkicaaGreatDoor
