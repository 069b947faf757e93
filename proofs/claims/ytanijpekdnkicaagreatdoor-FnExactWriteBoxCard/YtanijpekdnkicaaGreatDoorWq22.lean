/- Proved: several texts in one: what each proves is said ahead of it. -/
import Derived.Test.YtanijpekdnkicaaGreatDoorWq21
import Derived.Handy
import Derived.Test.YtanijpekdnkicaaGreatDoorWq20
import Derived.Test.YtanijpekdnkicaaGreatDoorWq14
import Derived.Test.YtanijpekdnkicaaGreatDoorWq10
import Derived.Test.YtanijpekdnkicaaGreatDoorWq16
import Derived.Test.YtanijpekdnkicaaGreatDoorWq12
import Derived.Test.YtanijpekdnkicaaGreatDoorWq02
import Derived.Deep.AppendLies
import Derived.Maps.AppendAt
import Derived.Deep.RegionHeld3
import Derived.Deep.WholeRow
import Derived.Laws.ResultCell
import Derived.Laws.CopyOwn
import Derived.BigRegion
import Derived.Test.YtanijpekdnkicaaGreatDoorRows
import Derived.WalkKit
import Derived.ProofKit
import Derived.OpenShut
import Derived.Test.YtanijpekdnkicaaGreatDoorWq07
import Derived.Test.YtanijpekdnkicaaGreatDoorWq18
import Derived.KernelRfl
import Derived.Test.YtanijpekdnkicaaGreatDoorWq13
import Derived.Deep.RegionWith
import Derived.Test.YtanijpekdnkicaaGreatDoorWq19
import Derived.Test.YtanijpekdnkicaaGreatDoorWq01
import Derived.Test.YtanijpekdnkicaaGreatDoorWq09
import Derived.Test.YtanijpekdnkicaaGreatDoorWq15
/- Proved: the contract of the program's NegCipher. -/
namespace Go.Proofs.YtanijpekdnkicaaGreatDoor
open Go.ChangeShapes Go.WideShapes Go.ChangeAt Go.RowKit
set_option linter.unusedVariables false
set_option linter.unusedSimpArgs false
theorem rw_parts {N : Int} {ps : List Int} {xss : List (List Int)} (h : rwB N ps xss = true) : xss.length = ps.length ∧ ∀ k, k < ps.length → polyB (ps.getD k 0) N (xss.getD k []) = true := by
  unfold rwB at h
  rw [Bool.and_eq_true] at h
  refine ⟨of_decide_eq_true h.1, fun k hk => ?_⟩
  have h2 := h.2
  unfold rwA at h2
  exact of_decide_eq_true h2 k hk (Nat.zero_le _)
theorem poly_parts {p N : Int} {xs : List Int} (h : polyB p N xs = true) : (xs.length : Int) = N ∧ ∀ i, i < xs.length → 0 ≤ xs.getD i 0 ∧ xs.getD i 0 < p := by
  unfold polyB at h
  rw [Bool.and_eq_true] at h
  refine ⟨of_decide_eq_true h.1, fun i hi => ?_⟩
  have h2 := List.all_eq_true.1 h.2 xs[i] (List.getElem_mem hi)
  rw [show xs.getD i 0 = xs[i] by simp [List.getD, hi]]
  simp [resB] at h2
  omega
theorem rd_true {m : Nat} {B : Nat → Bool} (h : rdB m B = true) : (2 ≤ m ∧ m ≤ 3) ∧ ∀ j, j < m → B j = true := by
  unfold rdB at h
  rw [Bool.and_eq_true] at h
  exact ⟨of_decide_eq_true h.1, of_decide_eq_true h.2⟩
end Go.Proofs.YtanijpekdnkicaaGreatDoor
/- Proved: a Part of a cipher, or noughts where it lacks; the sum of two, by rows. -/
namespace Go.Proofs.YtanijpekdnkicaaGreatDoor
open Go.ChangeShapes Go.WideShapes Go.ChangeAt Go.RowKit
set_option linter.unusedVariables false
set_option linter.unusedSimpArgs false
def RdX (N : Int) (ps : List Int) (Rf : Nat → Int) (xss : List (List Int)) (W : World) (v : Value) : Prop := ∃ us : Nat → Value, RdR W v ps.length N false ps Rf us ∧ ∀ k, k < ps.length → Row W (us k) (xss.getD k []) ∧ ∃ x c, us k = .slice x (xss.getD k []).length c
end Go.Proofs.YtanijpekdnkicaaGreatDoor
/- Proved: products of rows and sums with products, by rows that can be read. -/
namespace Go.Proofs.YtanijpekdnkicaaGreatDoor
open Go.ChangeShapes Go.WideShapes Go.ChangeAt Go.RowKit
set_option linter.unusedVariables false
set_option linter.unusedSimpArgs false
open M1
theorem hidP {P : Prop} (h : P) : Hid P := h
end Go.Proofs.YtanijpekdnkicaaGreatDoor
/- Proved: the program's AddRows. -/
namespace Go.Proofs.YtanijpekdnkicaaGreatDoor
open Go.ChangeShapes Go.WideShapes Go.ChangeAt Go.RowKit
open M1
set_option linter.unusedVariables false
set_option linter.unusedSimpArgs false
theorem OwS.ats {xss : List (List Int)} {W : World} {lo hi : Nat} {v : Value} (ps : List Int) (h : OwS xss W lo hi v) : ∃ us cs, 0 < xss.length → RowsAt W v ps xss us cs := by
  rcases Nat.eq_zero_or_pos xss.length with h0 | h0
  · exact ⟨fun _ => none, fun _ => 0, fun h => by omega⟩
  · obtain ⟨us, cs, h⟩ := h.at ps h0
    exact ⟨us, cs, fun _ => h⟩
end Go.Proofs.YtanijpekdnkicaaGreatDoor
/- Proved: rows brought ahead and back: what the program and the model make of each. -/
namespace Go.Proofs.YtanijpekdnkicaaGreatDoor
open Go.ChangeShapes Go.WideShapes Go.ChangeAt Go.RowKit
set_option linter.unusedVariables false
set_option linter.unusedSimpArgs false
open M1
theorem toZ_back (ys : List Nat) : (toZ ys).map Int.toNat = ys := by
  rw [toZ, List.map_map]
  refine (List.map_congr_left fun x hx => ?_).trans (List.map_id ys)
  simp
end Go.Proofs.YtanijpekdnkicaaGreatDoor
/- Proved: what the program's read tells of a good cipher, as rows that can be read; a cipher so read, under a secret. -/
namespace Go.Proofs.YtanijpekdnkicaaGreatDoor
open Go.ChangeShapes Go.WideShapes Go.ChangeAt Go.RowKit
set_option linter.unusedVariables false
set_option linter.unusedSimpArgs false
theorem RdX_ofZ {base Nn : Nat} {ps : List Int} {Rf : Nat → Int} {uf : Nat → Nat → Option Addr} {cf : Nat → Nat} {j : Nat} {W : World} {gp : Option Addr} {v2 : Value} {xss : List (List Int)} (hN : 2 ≤ Nn ∧ Nn ≤ 16) (hph : PhG base Nn ps Rf uf j W gp) (hra : RowsAt W v2 ps xss (uf j) cf) (hrw : rwB Nn ps xss = true) : RdX Nn ps Rf xss W (.slice gp ps.length ps.length) := by
  obtain ⟨gn, rfl, _, hrr⟩ := hph
  obtain ⟨bb, cc, _, hbb, hrow⟩ := hra
  obtain ⟨hxl, hpoly⟩ := rw_parts hrw
  refine ⟨_, hrr.rd, fun k hk => ?_⟩
  obtain ⟨q1, q2⟩ := poly_parts (hpoly k hk)
  have hlx : (xss.getD k []).length = Nn := by omega
  obtain ⟨_, hcf, r2⟩ := hrow k (by omega)
  rw [hlx] at r2
  rw [show ((Nn : Int).toNat) = Nn by omega, hlx]
  exact ⟨r2.recap (by intro h; rw [h] at hlx; simp at hlx; omega), _, _, rfl⟩
end Go.Proofs.YtanijpekdnkicaaGreatDoor
/- Proved: what the model tells of a pair (l8GoodPair). -/
namespace Go.Proofs.YtanijpekdnkicaaGreatDoor
open Go.ChangeShapes Go.WideShapes Go.ChangeAt Go.RowKit
set_option linter.unusedVariables false
set_option linter.unusedSimpArgs false
set_option maxRecDepth 100000 in
set_option maxHeartbeats 4000000 in
theorem spec_l8GoodPair (N T E : Int) (ps : List Int) (xss yss : List (List Int)) (a0 : Option Addr) (c0 : Nat) (aA aB : Option Addr) (cA cB : Nat) (w : World) (hv : Row w (.slice a0 ps.length c0) ps) (hx : RowS w (.slice aA xss.length cA) xss) (hy : RowS w (.slice aB yss.length cB) yss) (hlx : xss.length ≤ 1048576) (hrx : ∀ r ∈ xss, r.length ≤ 1048576) (hly : yss.length ≤ 1048576) (hry : ∀ r ∈ yss, r.length ≤ 1048576) (hs : spB N ps = true) :
    Calls Tryz.prog 77 #[.agg #[.int .i64 N, .int .i64 T, .int .i64 E, .slice a0 ps.length c0], .agg #[.slice aA xss.length cA, .slice aB yss.length cB]] w fun e w' => e = .returned (.bool (rwB N ps xss && rwB N ps yss)) ∧ Old w w' := by
  have K1 := hidP (fun W => l8Space_any N T E a0 ps.length c0 W)
  have K2 := hidP (fun W (q : Old w W) => spec_l5Rows N ps xss _ _ W (hv.old q) (hx.old q) hlx hrx hs)
  have K3 := hidP (fun W (q : Old w W) => spec_l5Rows N ps yss _ _ W (hv.old q) (hy.old q) hly hry hs)
  have HA : Hid (Old w ((w.alloc (.cells #[.int .i64 N, .int .i64 T, .int .i64 E, .slice a0 ps.length c0] 35)).alloc (.cells #[.slice aA xss.length cA, .slice aB yss.length cB] 77))) := ((Old.refl w).alloc _).alloc _
  have BP : Hid (Bk ((w.alloc (.cells #[.int .i64 N, .int .i64 T, .int .i64 E, .slice a0 ps.length c0] 35)).alloc (.cells #[.slice aA xss.length cA, .slice aB yss.length cB] 77)) (w.heap.size + 1) #[.slice aA xss.length cA, .slice aB yss.length cB] 77) := Bk.new' _ _ _ (by simp)
  clear hv hx hy hrx hry hs
  generalize rwB N ps xss = b1 at *
  generalize rwB N ps yss = b2 at *
  cases b1
  all_goals
    go_enter Tryz.func77, Tryz.ntmps77
    go_wp2_with fail
    refine (K1.out _).mono ?_
    rintro e w1 ⟨rfl, g1⟩
    obtain ⟨B1, hB1⟩ : ∃ B : World, w1.alloc (.cells #[.int .i64 N, .slice a0 ps.length c0] 104) = B := ⟨_, rfl⟩
    have O1 : Old w1 B1 := by rw [← hB1]; exact (Old.refl w1).alloc _
    have X1 : Hid (Bk B1 w1.heap.size #[.int .i64 N, .slice a0 ps.length c0] 104) := by rw [← hB1]; exact Bk.new' w1 _ _ rfl
    have HG1 := hidP (Old.trans HA.out (Old.trans g1 O1))
    have P1 := hidP (BP.out.old (Old.trans g1 O1))
    obtain ⟨k1, hk1⟩ : ∃ k, w1.heap.size = k := ⟨_, rfl⟩
    rw [hk1] at X1
    have z0 := P1.out.c (i := 0) rfl
    have z1 := P1.out.c (i := 1) rfl
    have x0 := X1.out.c (i := 0) rfl
    have x1 := X1.out.c (i := 1) rfl
    clear g1 O1 K1 HA BP
    go_wp2_with fail
    refine (K2.out _ HG1.out).mono ?_
    rintro e w2 ⟨rfl, g2⟩
    have HG2 := hidP (Old.trans HG1.out g2)
    have P2 := hidP (P1.out.old g2)
    have X2 := hidP (X1.out.old g2)
    clear z0 z1 x0 x1 g2 K2 P1 X1 hB1 hk1
    have z1 := P2.out.c (i := 1) rfl
    have x0 := X2.out.c (i := 0) rfl
    have x1 := X2.out.c (i := 1) rfl
    go_wp2_with fail
  · go_ret
    exact ⟨rfl, HG2.out⟩
  · refine (K3.out _ HG2.out).mono ?_
    rintro e w3 ⟨rfl, g3⟩
    have HG3 := hidP (Old.trans HG2.out g3)
    clear g3
    go_wp2_with fail
    go_ret
    exact ⟨by simp, HG3.out⟩
end Go.Proofs.YtanijpekdnkicaaGreatDoor
