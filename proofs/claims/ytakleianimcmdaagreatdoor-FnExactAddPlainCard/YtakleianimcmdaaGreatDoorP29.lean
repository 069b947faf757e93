/- Proved: several texts in one: what each proves is said ahead of it. -/
import Derived.Test.YtakleianimcmdaaGreatDoorP24
import Derived.Test.YtakleianimcmdaaGreatDoorP17
import Derived.Handy
import Derived.Test.YtakleianimcmdaaGreatDoorSml
import Derived.Test.YtakleianimcmdaaGreatDoorP25
import Derived.Test.YtakleianimcmdaaGreatDoorP12
import Derived.Deep.RegionHeld3
import Derived.Test.YtakleianimcmdaaGreatDoorP22
import Derived.Test.YtakleianimcmdaaGreatDoorP16
import Derived.Test.YtakleianimcmdaaGreatDoorP27
import Derived.Test.YtakleianimcmdaaGreatDoorPla
import Derived.Test.YtakleianimcmdaaGreatDoorP39
import Derived.Test.YtakleianimcmdaaGreatDoorP04
import Derived.KernelRfl
import Derived.Deep.WholeRow
import Derived.Laws.ResultCell
import Derived.Laws.CopyOwn
import Derived.BigRegion
import Derived.Test.YtakleianimcmdaaGreatDoorRows
import Derived.WalkKit
import Derived.ProofKit
import Derived.OpenShut
import Derived.Test.YtakleianimcmdaaGreatDoorBase
/- Proved: the contract of the program's NegCipher. -/
namespace Go.Proofs.YtakleianimcmdaaGreatDoor
open Go.ChangeShapes Go.WideShapes Go.ChangeAt Go.RowKit
set_option linter.unusedVariables false
set_option linter.unusedSimpArgs false
theorem rw_parts {N : Int} {ps : List Int} {xss : List (List Int)} (h : rwB N ps xss = true) : xss.length = ps.length ∧ ∀ k, k < ps.length → polyB (ps.getD k 0) N (xss.getD k []) = true := by
  unfold rwB at h
  rw [Bool.and_eq_true] at h
  refine ⟨of_decide_eq_true h.1, fun k hk => ?_⟩
  have h2 := h.2
  unfold rwA at h2
  exact of_decide_eq_true h2 k hk (Nat.zero_le _)
theorem poly_parts {p N : Int} {xs : List Int} (h : polyB p N xs = true) : (xs.length : Int) = N ∧ ∀ i, i < xs.length → 0 ≤ xs.getD i 0 ∧ xs.getD i 0 < p := by
  unfold polyB at h
  rw [Bool.and_eq_true] at h
  refine ⟨of_decide_eq_true h.1, fun i hi => ?_⟩
  have h2 := List.all_eq_true.1 h.2 xs[i] (List.getElem_mem hi)
  rw [show xs.getD i 0 = xs[i] by simp [List.getD, hi]]
  simp [resB] at h2
  omega
def CiA (zsss : List (List (List Int))) (ok : Bool) (w : World) (e : Ending) (w' : World) : Prop := ∃ r0, e = .returned (.tuple #[.agg r0, .bool ok]) ∧ Old w w' ∧ XC zsss w' w.heap.size w'.heap.size r0
theorem XC.nil2 {W : World} {lo hi : Nat} (h : hi ≤ W.heap.size) : XC [] W lo hi #[.slice none 0 0] := ⟨none, 0, rfl, Ows.nil h⟩
theorem ci_put {W : World} {k : Nat} {x : Value} {t : TypeId} (h : Bk W k #[x] t) (y : Value) : Bk (W.setCell ⟨k, 0, none⟩ y) k #[y] t := (heap_setCell_same W k 0 _ _ y h).trans rfl
theorem rd_true {m : Nat} {B : Nat → Bool} (h : rdB m B = true) : (2 ≤ m ∧ m ≤ 3) ∧ ∀ j, j < m → B j = true := by
  unfold rdB at h
  rw [Bool.and_eq_true] at h
  exact ⟨of_decide_eq_true h.1, of_decide_eq_true h.2⟩
end Go.Proofs.YtakleianimcmdaaGreatDoor
/- Proved: the contract of the program's lifted, where the quotient is told. -/
namespace Go.Proofs.YtakleianimcmdaaGreatDoor
open Go.ChangeShapes Go.WideShapes Go.ChangeAt Go.RowKit
set_option linter.unusedVariables false
set_option linter.unusedSimpArgs false
def lfL (m : Int → Int) (ps ss : List Int) : List (List Int) := pairL (mulF m) ps (smS ps ss) (smS ps ss)
theorem lift_rows (Nn : Nat) (ps ss ds : List Int) (Rf : Nat → Int) (m : Int → Int) (ld : Nat) (hps : 1 ≤ ps.length ∧ ps.length ≤ 6) (hN : 2 ≤ Nn ∧ Nn ≤ 16) (hl : ss.length = Nn) (hp : ∀ k, k < ps.length → 2 ≤ ps.getD k 0 ∧ ps.getD k 0 ≤ 268435456)
    (KM : ∀ W a c k, k < ps.length → Row W (.slice a ld c) ds → Calls Tryz.prog 143 #[.agg #[.bool false, .slice a ld c], .int .i64 (ps.getD k 0)] W fun e w' => e = .returned (.int .i64 (m (ps.getD k 0))) ∧ Old W w') (hm : ∀ k, k < ps.length → 0 ≤ m (ps.getD k 0) ∧ m (ps.getD k 0) ≤ 268435456)
    (W : World) (kb g lo hi : Nat) (a1 : Option Addr) (c1 : Nat) (hb : W.heap[kb]? = some (.cells #[.bool false, .slice a1 ld c1] 43 (0, 0))) (hd : Row W (.slice a1 ld c1) ds) (ho : Ows (TS 118 5 ps.length (elR Nn false ps Rf (smS ps ss))) W lo hi [.slice (some ⟨g, 0, none⟩) ps.length ps.length]) :
    Calls Tryz.prog 140 #[.slice (some ⟨g, 0, none⟩) ps.length ps.length, .func (.func 141) #[] #[.pointer (some ⟨kb, 0, none⟩)]] W fun e w' => e = .returned (.slice (some ⟨W.heap.size, 0, none⟩) ps.length ps.length) ∧ Old W w' ∧ Ows (TS 118 5 ps.length (elR Nn false ps Rf (lfL m ps ss))) w' W.heap.size w'.heap.size [.slice (some ⟨W.heap.size, 0, none⟩) ps.length ps.length] := by
  obtain ⟨us, hr, hus⟩ := Ows.rd (by omega) ho
  refine changed_lift kb Nn false ps Rf us _ ps.length W hr (fun k hk => ?_) (by omega) (lfL m ps ss) (fun k hk W' g' => ?_)
  · obtain ⟨_, x, c, e⟩ := hus k hk
    exact ⟨x, _, c, e⟩
  · obtain ⟨r1, x, c, e⟩ := hus k hk
    have hlz : ((smS ps ss).getD k []).length = Nn := by rw [smS_get _ _ _ hk, smR_len]; exact hl
    rw [hlz] at e
    rw [e] at r1 ⊢
    have hpk := hp k hk
    unfold lfL
    rw [pairL_get _ _ _ _ _ hk]
    refine (lift_change (ps.getD k 0) (Rf k) (m (ps.getD k 0)) false false Nn c (pairR (mulF m) (ps.getD k 0) ((smS ps ss).getD k []) ((smS ps ss).getD k [])) x a1 ld c1 kb W' ((show StW W kb (.bool false) (.slice a1 ld c1) 43 from hb).old g') (fun W2 g2 => KM W2 a1 c1 k hk (hd.old (Old.trans g' g2))) (fun W2 g2 => ?_)).mono fun e w' h => ?_
    · exact impl_scaledA (ps.getD k 0) (Rf k) (m (ps.getD k 0)) false Nn c ((smS ps ss).getD k []) x W2 (r1.old (Old.trans g' g2)) (hm k hk) hpk hN hlz (fun i hi => by
        rw [smS_get _ _ _ hk, smR_get _ _ _ (by omega)]
        exact ⟨Int.emod_nonneg _ (by omega), Int.emod_lt_of_pos _ (by omega)⟩)
    · obtain ⟨g3, e3, q3, o3⟩ := h
      exact ⟨_, e3, q3, o3⟩
set_option maxRecDepth 100000 in
set_option maxHeartbeats 8000000 in
theorem lifted_of (Nn : Nat) (T E : Int) (ps ss ts ds : List Int) (Rf : Nat → Int) (m : Int → Int) (lt ld : Nat) (a3 : Option Addr) (l3 c3 gr : Nat) (a6 : Option Addr) (l6 c6 : Nat) (v : Value) (w : World) (hps : 1 ≤ ps.length ∧ ps.length ≤ 6) (hN : 2 ≤ Nn ∧ Nn ≤ 16) (hl : ss.length = Nn) (hp : ∀ k, k < ps.length → 2 ≤ ps.getD k 0 ∧ ps.getD k 0 ≤ 268435456)
    (hr : Rgs w gr Nn ps Rf ps.length) (hv : Row w v ss) (hs : ∀ i, i < ss.length → -9223372036854775808 ≤ ss.getD i 0 ∧ ss.getD i 0 ≤ 9223372036854775807)
    (KW : ∀ W, Old w W → Calls Tryz.prog 139 #[.int .i64 T] W fun e w' => ∃ v', e = .returned v' ∧ Old W w' ∧ ∃ a c, v' = .agg #[.bool false, .slice a lt c] ∧ Own w' W.heap.size (.slice a lt c) ts)
    (KD : ∀ W a c, Old w W → Row W (.slice a lt c) ts → Calls Tryz.prog 138 #[.agg #[.bool false, .slice a6 l6 c6], .agg #[.bool false, .slice a lt c]] W fun e w' => ∃ v', e = .returned v' ∧ Old W w' ∧ ∃ a1 c1 a2 l2 c2, v' = .tuple #[.agg #[.bool false, .slice a1 ld c1], .agg #[.bool false, .slice a2 l2 c2], .bool true] ∧ Own w' W.heap.size (.slice a1 ld c1) ds)
    (KM : ∀ W a c k, k < ps.length → Row W (.slice a ld c) ds → Calls Tryz.prog 143 #[.agg #[.bool false, .slice a ld c], .int .i64 (ps.getD k 0)] W fun e w' => e = .returned (.int .i64 (m (ps.getD k 0))) ∧ Old W w') (hm : ∀ k, k < ps.length → 0 ≤ m (ps.getD k 0) ∧ m (ps.getD k 0) ≤ 268435456) :
    Calls Tryz.prog 80 #[.agg #[.int .i64 Nn, .int .i64 T, .int .i64 E, .slice a3 l3 c3, .slice (some ⟨gr, 0, none⟩) ps.length ps.length, .bool false, .slice a6 l6 c6], v] w fun e w' => ∃ g, w.heap.size ≤ g ∧ e = .returned (.slice (some ⟨g, 0, none⟩) ps.length ps.length) ∧ Old w w' ∧ Ows (TS 118 5 ps.length (elR Nn false ps Rf (lfL m ps ss))) w' w.heap.size w'.heap.size [.slice (some ⟨g, 0, none⟩) ps.length ps.length] := by
  obtain ⟨sa, sc, ev⟩ := hv.slice
  subst ev
  have HKS : Hid (∀ W, Old w W → Calls Tryz.prog 83 #[.slice (some ⟨gr, 0, none⟩) ps.length ps.length, .slice sa ss.length sc] W (SmA Nn ps ss Rf W)) := fun W q => impl_smallRows Nn ps ss Rf gr _ W (hr.old q) (by omega) (hv.old q) (by omega) hs (fun k hk => by have := hp k hk; omega)
  have HKC : Hid (∀ (W : World) (kb g lo hi : Nat) (a1 : Option Addr) (c1 : Nat), W.heap[kb]? = some (.cells #[.bool false, .slice a1 ld c1] 43 (0, 0)) → Row W (.slice a1 ld c1) ds → Ows (TS 118 5 ps.length (elR Nn false ps Rf (smS ps ss))) W lo hi [.slice (some ⟨g, 0, none⟩) ps.length ps.length] → Calls Tryz.prog 140 #[.slice (some ⟨g, 0, none⟩) ps.length ps.length, .func (.func 141) #[] #[.pointer (some ⟨kb, 0, none⟩)]] W fun e w' => e = .returned (.slice (some ⟨W.heap.size, 0, none⟩) ps.length ps.length) ∧ Old W w' ∧ Ows (TS 118 5 ps.length (elR Nn false ps Rf (lfL m ps ss))) w' W.heap.size w'.heap.size [.slice (some ⟨W.heap.size, 0, none⟩) ps.length ps.length]) := lift_rows Nn ps ss ds Rf m ld hps hN hl hp KM hm
  generalize hA : w.alloc (.cells #[.int .i64 Nn, .int .i64 T, .int .i64 E, .slice a3 l3 c3, .slice (some ⟨gr, 0, none⟩) ps.length ps.length, .bool false, .slice a6 l6 c6] 73) = wA
  have HOA : Hid (Old w wA) := by show Old w wA; rw [← hA]; exact (Old.refl w).alloc _
  have BA : Hid (Bk wA w.heap.size #[.int .i64 Nn, .int .i64 T, .int .i64 E, .slice a3 l3 c3, .slice (some ⟨gr, 0, none⟩) ps.length ps.length, .bool false, .slice a6 l6 c6] 73) := by show Bk _ _ _ _; rw [← hA]; exact Bk.new' w _ _ rfl
  have HKW : Hid (∀ W, Old wA W → Calls Tryz.prog 139 #[.int .i64 T] W fun e w' => ∃ v', e = .returned v' ∧ Old W w' ∧ ∃ a c, v' = .agg #[.bool false, .slice a lt c] ∧ Own w' W.heap.size (.slice a lt c) ts) := fun W q => KW W (Old.trans HOA.out q)
  have HKD : Hid (∀ W a c, Old wA W → Row W (.slice a lt c) ts → Calls Tryz.prog 138 #[.agg #[.bool false, .slice a6 l6 c6], .agg #[.bool false, .slice a lt c]] W fun e w' => ∃ v', e = .returned v' ∧ Old W w' ∧ ∃ a1 c1 a2 l2 c2, v' = .tuple #[.agg #[.bool false, .slice a1 ld c1], .agg #[.bool false, .slice a2 l2 c2], .bool true] ∧ Own w' W.heap.size (.slice a1 ld c1) ds) := fun W a c q => KD W a c (Old.trans HOA.out q)
  generalize lfL m ps ss = Z at *
  clear KW KD KM hm hp hr hv hs hl
  go_enter Tryz.func80, Tryz.ntmps80
  go_wp2_with fail
  refine reg_lf wA w.heap.size T a6 l6 c6 lt ld ts ds (BA.out.c (i := 1) rfl) (BA.out.c (i := 5) rfl) (BA.out.c (i := 6) rfl) HKW.out HKD.out _ _ ?_ ?_ ?_
  iterate 2 (· exact rfl)
  intro us W g a1 c1 q1 hg h11 hb o1
  have hz : w.heap.size < wA.heap.size := BA.out.lt
  have B1 : Hid (Bk W w.heap.size #[.int .i64 Nn, .int .i64 T, .int .i64 E, .slice a3 l3 c3, .slice (some ⟨gr, 0, none⟩) ps.length ps.length, .bool false, .slice a6 l6 c6] 73) := BA.out.old q1
  have HQ : Hid (Old w W) := Old.trans HOA.out q1
  have HB : Hid (W.heap[g]? = some (.cells #[.bool false, .slice a1 ld c1] 43 (0, 0))) := hb
  have HO1 : Hid (Row W (.slice a1 ld c1) ds) := Own.row o1
  have x4 := B1.out.c (i := 4) rfl
  simp only [putAll, Act.put, slotLf, List.range, List.range.loop, List.map_cons, List.map_nil, List.getD_cons_zero, List.getD_cons_succ, List.setIfInBounds_toArray, List.set_cons_succ, List.set_cons_zero, h11]
  clear q1 hb o1 h11 BA HKW HKD hA HOA
  go_wp2_with fail
  refine (HKS.out W HQ.out).mono ?_
  rintro e w2 ⟨g2, hg2, rfl, q2, o2⟩
  have HQ2 : Hid (Old w w2) := Old.trans HQ.out q2
  have HK2 := HKC.out w2 g g2 _ _ a1 c1 ((q2.block g (lt_of_some HB.out)).trans HB.out) (HO1.out.old q2) o2
  clear q2 o2 x4 HKS HKC
  go_wp2_with fail
  refine HK2.mono ?_
  rintro e w3 ⟨rfl, q3, o3⟩
  have HQ3 : Hid (Old w w3) := Old.trans HQ2.out q3
  have HO3 : Hid (Ows (TS 118 5 ps.length (elR Nn false ps Rf Z)) w3 w.heap.size w3.heap.size [.slice (some ⟨w2.heap.size, 0, none⟩) ps.length ps.length]) := o3.low HQ2.out.size (Nat.le_refl _) (Nat.le_refl _)
  clear q3 o3
  go_wp2_with fail
  go_ret
  exact ⟨w2.heap.size, HQ2.out.size, rfl, HQ3.out, HO3.out⟩
end Go.Proofs.YtakleianimcmdaaGreatDoor
/- Proved: a Part of a cipher, or noughts where it lacks; the sum of two, by rows. -/
namespace Go.Proofs.YtakleianimcmdaaGreatDoor
open Go.ChangeShapes Go.WideShapes Go.ChangeAt Go.RowKit
set_option linter.unusedVariables false
set_option linter.unusedSimpArgs false
def RdX (N : Int) (ps : List Int) (Rf : Nat → Int) (xss : List (List Int)) (W : World) (v : Value) : Prop := ∃ us : Nat → Value, RdR W v ps.length N false ps Rf us ∧ ∀ k, k < ps.length → Row W (us k) (xss.getD k []) ∧ ∃ x c, us k = .slice x (xss.getD k []).length c
theorem RdX.old {N : Int} {ps : List Int} {Rf : Nat → Int} {xss : List (List Int)} {W W' : World} {v : Value} (h : RdX N ps Rf xss W v) (g : Old W W') : RdX N ps Rf xss W' v := by
  obtain ⟨us, h1, h2⟩ := h
  exact ⟨us, h1.old g, fun k hk => ⟨(h2 k hk).1.old g, (h2 k hk).2⟩⟩
theorem RdX.slice {N : Int} {ps : List Int} {Rf : Nat → Int} {xss : List (List Int)} {W : World} {v : Value} (h : RdX N ps Rf xss W v) : ∃ a c, v = .slice a ps.length c := by
  obtain ⟨us, ⟨b, cap, e, _⟩, _⟩ := h
  exact ⟨_, _, e⟩
def OkX (Nn : Nat) (ps : List Int) (xss : List (List Int)) : Prop := ∀ k, k < ps.length → (xss.getD k []).length = Nn ∧ ∀ i, i < Nn → 0 ≤ (xss.getD k []).getD i 0 ∧ (xss.getD k []).getD i 0 < ps.getD k 0
theorem okX_rw {Nn : Nat} {ps : List Int} {xss : List (List Int)} (h : rwB Nn ps xss = true) : OkX Nn ps xss := fun k hk => by
  obtain ⟨h1, h2⟩ := rw_parts h
  obtain ⟨p1, p2⟩ := poly_parts (h2 k hk)
  exact ⟨by omega, fun i hi => p2 i (by omega)⟩
theorem zero_get (Nn : Nat) (ps : List Int) (k i : Nat) (hk : k < ps.length) (hi : i < Nn) : ((smS ps (List.replicate Nn 0)).getD k []).getD i 0 = 0 := by
  rw [smS_get _ _ _ hk, smR_get _ _ _ (by simpa using hi)]
  simp [List.getD, List.getElem?_replicate, hi]
theorem okX_zero {Nn : Nat} {ps : List Int} (hp : ∀ k, k < ps.length → 2 ≤ ps.getD k 0 ∧ ps.getD k 0 ≤ 268435456) : OkX Nn ps (smS ps (List.replicate Nn 0)) := fun k hk => by
  refine ⟨by rw [smS_get _ _ _ hk, smR_len]; simp, fun i hi => ?_⟩
  rw [zero_get Nn ps k i hk hi]
  have := hp k hk
  omega
theorem get_some {α : Type} (l : List α) (i : Nat) (d : α) (h : i < l.length) : l[i]? = some (l.getD i d) := by simp [List.getD, h]
theorem add_zeroR {Nn : Nat} {ps : List Int} {xss : List (List Int)} (hx : xss.length = ps.length) (h : OkX Nn ps xss) : pairL addF ps xss (smS ps (List.replicate Nn 0)) = xss := by
  apply List.ext_getElem?
  intro k
  by_cases hk : k < ps.length
  · have e1 : (pairL addF ps xss (smS ps (List.replicate Nn 0)))[k]? = some ((pairL addF ps xss (smS ps (List.replicate Nn 0))).getD k []) := by simp [List.getD, pairL_len, hk]
    have e2 : xss[k]? = some (xss.getD k []) := by simp [List.getD, hx, hk]
    rw [e1, e2, pairL_get _ _ _ _ _ hk]
    congr 1
    obtain ⟨l1, l2⟩ := h k hk
    apply List.ext_getElem?
    intro i
    by_cases hi : i < Nn
    · have e3 := get_some (pairR addF (ps.getD k 0) (xss.getD k []) ((smS ps (List.replicate Nn 0)).getD k [])) i 0 (by rw [pairR_len]; omega)
      have e4 := get_some (xss.getD k []) i 0 (by omega)
      rw [e3, e4, pairR_get _ _ _ _ _ (by omega), zero_get Nn ps k i hk hi]
      have := l2 i hi
      unfold addF
      rw [Int.add_zero, Int.emod_eq_of_lt this.1 this.2]
    · rw [List.getElem?_eq_none (by rw [pairR_len]; omega), List.getElem?_eq_none (by omega)]
  · rw [List.getElem?_eq_none (by rw [pairL_len]; omega), List.getElem?_eq_none (by omega)]
theorem add_zeroL {Nn : Nat} {ps : List Int} {xss : List (List Int)} (hx : xss.length = ps.length) (h : OkX Nn ps xss) : pairL addF ps (smS ps (List.replicate Nn 0)) xss = xss := by
  refine Eq.trans ?_ (add_zeroR hx h)
  unfold pairL
  refine List.map_congr_left fun k hk => ?_
  have hk' : k < ps.length := by simpa using hk
  unfold pairR
  have l1 : ((smS ps (List.replicate Nn 0)).getD k []).length = Nn := by rw [smS_get _ _ _ hk', smR_len]; simp
  rw [l1, (h k hk').1]
  refine List.map_congr_left fun i hi => ?_
  unfold addF
  rw [Int.add_comm]
theorem add_part (Nn : Nat) (ps : List Int) (Rf : Nat → Int) (xss yss : List (List Int)) (v1 v2 : Value) (w : World) (hN : 2 ≤ Nn ∧ Nn ≤ 16) (hps : 1 ≤ ps.length ∧ ps.length ≤ 6) (hpb : ∀ k, k < ps.length → 2 ≤ ps.getD k 0 ∧ ps.getD k 0 ≤ 268435456) (hx : OkX Nn ps xss) (hy : OkX Nn ps yss) (h1 : RdX Nn ps Rf xss w v1) (h2 : RdX Nn ps Rf yss w v2) :
    Calls Tryz.prog 75 #[v1, v2, .func (.func 128) #[] #[]] w fun e w' => ∃ v', e = .returned v' ∧ Old w w' ∧ Ows (TS 118 5 ps.length (elR Nn false ps Rf (pairL addF ps xss yss))) w' w.heap.size w'.heap.size [v'] := by
  obtain ⟨us, hr, hus⟩ := h1
  obtain ⟨vs, hs, hvs⟩ := h2
  refine (joined_plus Nn false ps Rf us v1 ps Rf false vs v2 ps.length w hr (fun k hk => ?_) hs (fun k hk => ?_) (by omega) (pairL addF ps xss yss) (fun k hk W g => ?_)).mono fun e w' h => ⟨_, h.1, h.2.1, h.2.2⟩
  · obtain ⟨_, x, c, e⟩ := hus k hk
    exact ⟨x, _, c, e⟩
  · obtain ⟨_, x, c, e⟩ := hvs k hk
    exact ⟨x, _, c, e⟩
  · obtain ⟨r1, x, c, e⟩ := hus k hk
    obtain ⟨r2, y, d, f⟩ := hvs k hk
    rw [(hx k hk).1] at e
    rw [(hy k hk).1] at f
    rw [e] at r1 ⊢
    rw [f] at r2 ⊢
    refine (impl_plusA (ps.getD k 0) (Rf k) (ps.getD k 0) (Rf k) Nn false false Nn _ _ x y c d W (r1.old g) (r2.old g) (hpb k hk) hN (hx k hk).1 (hy k hk).1 (fun i hi => ⟨(hx k hk).2 i hi, (hy k hk).2 i hi⟩)).mono fun e w' h => ?_
    obtain ⟨g', rfl, g2, o2⟩ := h
    refine ⟨_, rfl, g2, ?_⟩
    rw [pairL_get _ _ _ _ k hk]
    exact o2
set_option maxRecDepth 100000 in
set_option maxHeartbeats 2000000 in
theorem partAt_in (N T E : Int) (a3 : Option Addr) (l3 c3 : Nat) (a4 : Option Addr) (l4 c4 : Nat) (b5 : Bool) (a6 : Option Addr) (l6 c6 : Nat) (gp m i : Nat) (au : Option Addr) (lu cu : Nat) (w : World) (hi : i < m) (hm : m ≤ 3) (hg : gp < w.heap.size) (hc : w.cell? ⟨gp, i, none⟩ = some (.slice au lu cu)) :
    Calls Tryz.prog 127 #[.agg #[.int .i64 N, .int .i64 T, .int .i64 E, .slice a3 l3 c3, .slice a4 l4 c4, .bool b5, .slice a6 l6 c6], .slice (some ⟨gp, 0, none⟩) m m, .int .i64 i] w fun e w' => e = .returned (.slice au lu cu) ∧ Old w w' := by
  have HA : Hid (Old w (w.alloc (.cells #[.int .i64 N, .int .i64 T, .int .i64 E, .slice a3 l3 c3, .slice a4 l4 c4, .bool b5, .slice a6 l6 c6] 73))) := (Old.refl w).alloc _
  have d1 : decide ((i : Int) < (m : Int)) = true := decide_eq_true (by omega)
  have i1 : (i : Int) < (m : Int) := by omega
  have c1 := (HA.out.cell (p := ⟨gp, i, none⟩) hg).trans hc
  clear hc
  go_enter Tryz.func127, Tryz.ntmps127
  go_wp2_with fail
  go_ret
  exact ⟨rfl, HA.out⟩
set_option maxRecDepth 100000 in
set_option maxHeartbeats 2000000 in
theorem partAt_out (Nn : Nat) (ps : List Int) (Rf : Nat → Int) (T E : Int) (a3 : Option Addr) (l3 c3 : Nat) (gr : Nat) (b5 : Bool) (a6 : Option Addr) (l6 c6 : Nat) (gp m i : Nat) (w : World) (hi : ¬ i < m) (hm : m ≤ 3) (hr : Rgs w gr Nn ps Rf ps.length) (hN : 2 ≤ Nn ∧ Nn ≤ 16) (hps : 1 ≤ ps.length ∧ ps.length ≤ 6) (hpb : ∀ k, k < ps.length → 2 ≤ ps.getD k 0 ∧ ps.getD k 0 ≤ 268435456) :
    Calls Tryz.prog 127 #[.agg #[.int .i64 Nn, .int .i64 T, .int .i64 E, .slice a3 l3 c3, .slice (some ⟨gr, 0, none⟩) ps.length ps.length, .bool b5, .slice a6 l6 c6], .slice (some ⟨gp, 0, none⟩) m m, .int .i64 i] w fun e w' => ∃ v', e = .returned v' ∧ Old w w' ∧ RdX Nn ps Rf (smS ps (List.replicate Nn 0)) w' v' := by
  have HA : Hid (Old w (w.alloc (.cells #[.int .i64 Nn, .int .i64 T, .int .i64 E, .slice a3 l3 c3, .slice (some ⟨gr, 0, none⟩) ps.length ps.length, .bool b5, .slice a6 l6 c6] 73))) := (Old.refl w).alloc _
  have d1 : decide ((i : Int) < (m : Int)) = false := decide_eq_false (by omega)
  have cz := impl_noughtRows Nn ps Rf gr _ (hr.old HA.out) (by omega) (by omega) (fun k hk => by have := hpb k hk; omega)
  have HPS : Hid (0 < ps.length) := hps.1
  clear hr hpb hps hN
  go_enter Tryz.func127, Tryz.ntmps127
  go_wp2_with fail
  refine cz.mono ?_
  rintro e w3 ⟨gz, hgz, rfl, g3, o3⟩
  have HG3 : Hid (Old w w3) := Old.trans HA.out g3
  have HO3 : Hid (Ows (TS 118 5 ps.length (elR Nn false ps Rf (smS ps (List.replicate Nn 0)))) w3 0 w3.heap.size [.slice (some ⟨gz, 0, none⟩) ps.length ps.length]) := o3.low (Nat.zero_le _) (Nat.le_refl _) (Nat.le_refl _)
  clear g3 o3 cz
  go_wp2_with fail
  go_ret
  exact ⟨_, rfl, HG3.out, Ows.rd HPS.out HO3.out⟩
end Go.Proofs.YtakleianimcmdaaGreatDoor
/- Proved: the drawn region of sum: a Part of each, their sum, which is laid into the sums. -/
namespace Go.Proofs.YtakleianimcmdaaGreatDoor
open Go.ChangeShapes Go.WideShapes Go.ChangeAt Go.RowKit
set_option linter.unusedVariables false
set_option linter.unusedSimpArgs false
def slotSm (i : Nat) : Nat := [26, 27, 28, 29, 30, 31, 32, 33, 34, 35, 36, 37].getD i 0
theorem slotSm_lt : ∀ i, i < 12 → slotSm i < 40 := by decide
theorem slotSm_inj : ∀ i, i < 12 → ∀ j, j < 12 → slotSm i = slotSm j → i = j := by decide
theorem slotSm_no : ∀ s, s < 20 → ∀ i, i < 12 → slotSm i ≠ s := by decide
def qSm (sb M k : Nat) (RK : Array Value) (gl ml gr mr : Nat) (N : Int) (ps : List Int) (Rf : Nat → Int) (A B : List (List Int)) (Es : Nat → Thing) (base : Nat) (i : Nat) (W : World) (xv : Value) : Prop :=
  match i with
  | 0 => xv = .slice (some ⟨sb, 0, none⟩) M M
  | 1 => xv = .int .i64 k
  | 2 => xv = .agg RK
  | 3 => xv = .slice (some ⟨gl, 0, none⟩) ml ml
  | 4 => xv = .int .i64 k
  | 5 => ∃ a c, xv = .slice a ps.length c ∧ RdX N ps Rf A W xv
  | 6 => xv = .agg RK
  | 7 => xv = .slice (some ⟨gr, 0, none⟩) mr mr
  | 8 => xv = .int .i64 k
  | 9 => ∃ a c, xv = .slice a ps.length c ∧ RdX N ps Rf B W xv
  | 10 => ∃ a c, xv = .slice a ps.length c ∧ Ows (TS 118 5 ps.length Es) W base W.heap.size [xv]
  | 11 => xv = .pointer (some ⟨sb, k, none⟩)
  | _ => True
theorem qSm_old (sb M k : Nat) (RK : Array Value) (gl ml gr mr : Nat) (N : Int) (ps : List Int) (Rf : Nat → Int) (A B : List (List Int)) (Es : Nat → Thing) (gE : ∀ j, GoodT (Es j)) (base : Nat) (i : Nat) (W W' : World) (xv : Value) (h : qSm sb M k RK gl ml gr mr N ps Rf A B Es base i W xv) (qo : Old W W') : qSm sb M k RK gl ml gr mr N ps Rf A B Es base i W' xv := by
  unfold qSm at h ⊢
  split at h
  case h_6 =>
    obtain ⟨a, c, e, o⟩ := h
    exact ⟨a, c, e, o.old qo⟩
  case h_10 =>
    obtain ⟨a, c, e, o⟩ := h
    exact ⟨a, c, e, o.old qo⟩
  case h_11 =>
    obtain ⟨a, c, e, o⟩ := h
    exact ⟨a, c, e, (Ows.old (good_TS _ _ _ gE) o qo).low (Nat.le_refl _) qo.size (Nat.le_refl _)⟩
  all_goals first | exact h | trivial
set_option maxRecDepth 100000 in
set_option maxHeartbeats 4000000 in
theorem reg_Sm (w0 : World) (bx sb M k : Nat) (N T E : Int) (a3 : Option Addr) (l3 c3 : Nat) (a4 : Option Addr) (l4 c4 : Nat) (b5 : Bool) (a6 : Option Addr) (l6 c6 : Nat) (gl ml gr mr : Nat) (N' : Int) (ps : List Int) (Rf : Nat → Int) (A B : List (List Int)) (Es : Nat → Thing) (gE : ∀ j, GoodT (Es j)) (hk : (k : Int) < (M : Int)) (hM : M ≤ 3)
    (bX : w0.heap[bx]? = some (.cells #[.int .i64 N, .int .i64 T, .int .i64 E, .slice a3 l3 c3, .slice a4 l4 c4, .bool b5, .slice a6 l6 c6] 73 (0, 0)))
    (hcs : ∀ W, Old w0 W → ∃ y, W.cell? ⟨sb, k, none⟩ = some y) (hfr : ∀ W, Old w0 W → W.frozen? ⟨sb, k, none⟩ = false)
    (KA : ∀ W, Old w0 W → Calls Tryz.prog 127 #[.agg #[.int .i64 N, .int .i64 T, .int .i64 E, .slice a3 l3 c3, .slice a4 l4 c4, .bool b5, .slice a6 l6 c6], .slice (some ⟨gl, 0, none⟩) ml ml, .int .i64 k] W fun e w' => ∃ v', e = .returned v' ∧ Old W w' ∧ RdX N' ps Rf A w' v')
    (KB : ∀ W, Old w0 W → Calls Tryz.prog 127 #[.agg #[.int .i64 N, .int .i64 T, .int .i64 E, .slice a3 l3 c3, .slice a4 l4 c4, .bool b5, .slice a6 l6 c6], .slice (some ⟨gr, 0, none⟩) mr mr, .int .i64 k] W fun e w' => ∃ v', e = .returned v' ∧ Old W w' ∧ RdX N' ps Rf B w' v')
    (KJ : ∀ W, Old w0 W → ∀ v1 v2, RdX N' ps Rf A W v1 → RdX N' ps Rf B W v2 → Calls Tryz.prog 75 #[v1, v2, .func (.func 128) #[] #[]] W fun e w' => ∃ v', e = .returned v' ∧ Old W w' ∧ Ows (TS 118 5 ps.length Es) w' W.heap.size w'.heap.size [v'])
    (Q : Exit → Act → World → Prop) (a0 : Act) (hsz : a0.tmps.size = 40)
    (ha3 : a0.eval (.tmp 3) = .pointer (some ⟨bx, 0, none⟩)) (ha7 : a0.eval (.tmp 7) = .slice (some ⟨gl, 0, none⟩) ml ml) (ha8 : a0.eval (.tmp 8) = .slice (some ⟨gr, 0, none⟩) mr mr) (ha9 : a0.eval (.tmp 9) = .slice (some ⟨sb, 0, none⟩) M M) (ha10 : a0.eval (.tmp 10) = .int .i64 k)
    (HK : Hid (∀ (us : Nat → Value) W a c, Old w0 W → Ows (TS 118 5 ps.length Es) W w0.heap.size W.heap.size [.slice a ps.length c] → Q .normal (putAll a0 ((List.range 12).map fun i => (slotSm i, us i))) (W.setCell ⟨sb, k, none⟩ (.slice a ps.length c)))) :
    Code.wp Tryz.prog ((Tryz.f67.body.bind (regionAtmul 6)).getD .skip) Q a0 w0 := by
  conv => arg 2; whnf
  have un := slotSm_no
  have px : ∀ W, Old w0 W → W.heap[bx]? = some (.cells #[.int .i64 N, .int .i64 T, .int .i64 E, .slice a3 l3 c3, .slice a4 l4 c4, .bool b5, .slice a6 l6 c6] 73 (0, 0)) := fun W g => (g.block bx (lt_of_some bX)).trans bX
  refine wp_region_tail 12 (by decide) (by kernel_rfl) (by kernel_rfl) (by kernel_rfl) (by kernel_rfl) (by kernel_rfl) slotSm (fun i hi => by rw [hsz]; exact slotSm_lt i hi) (fun i j hi hj => slotSm_inj i hi j hj) (qSm sb M k #[.int .i64 N, .int .i64 T, .int .i64 E, .slice a3 l3 c3, .slice a4 l4 c4, .bool b5, .slice a6 l6 c6] gl ml gr mr N' ps Rf A B Es w0.heap.size) (qSm_old sb M k _ gl ml gr mr N' ps Rf A B Es gE w0.heap.size) ?_ ?_
  · refine ⟨?_, ?_, ?_, ?_, ?_, ?_, ?_, ?_, ?_, ?_, ?_, ?_, trivial⟩
    · intro a W g hF hd
      refine op_move ?_
      exact ⟨_, rfl, Old.refl _, (hF.same 9 (un 9 (by decide))).trans ha9⟩
    · intro a W g hF hd
      refine op_move ?_
      exact ⟨_, rfl, Old.refl _, (hF.same 10 (un 10 (by decide))).trans ha10⟩
    · intro a W g hF hd
      refine op_load (k := bx) ((hF.same 3 (un 3 (by decide))).trans ha3) (px W g) Tryz.underlying73 rfl (by kernel_rfl) ?_
      exact ⟨_, rfl, Old.refl _, rfl⟩
    · intro a W g hF hd
      refine op_move ?_
      exact ⟨_, rfl, Old.refl _, (hF.same 7 (un 7 (by decide))).trans ha7⟩
    · intro a W g hF hd
      refine op_move ?_
      exact ⟨_, rfl, Old.refl _, (hF.same 10 (un 10 (by decide))).trans ha10⟩
    · intro a W g hF hd
      have h2 : a.eval (.tmp 28) = .agg #[.int .i64 N, .int .i64 T, .int .i64 E, .slice a3 l3 c3, .slice a4 l4 c4, .bool b5, .slice a6 l6 c6] := hd ⟨2, .data⟩ (by simp) rfl
      have h3 : a.eval (.tmp 29) = .slice (some ⟨gl, 0, none⟩) ml ml := hd ⟨3, .data⟩ (by simp) rfl
      have h4 : a.eval (.tmp 30) = .int .i64 k := hd ⟨4, .data⟩ (by simp) rfl
      refine op_call_ret (R := fun v w' => Old W w' ∧ ∃ ra rc, v = .slice ra ps.length rc ∧ RdX N' ps Rf A w' v) Tryz.call127 (vs := #[.agg #[.int .i64 N, .int .i64 T, .int .i64 E, .slice a3 l3 c3, .slice a4 l4 c4, .bool b5, .slice a6 l6 c6], .slice (some ⟨gl, 0, none⟩) ml ml, .int .i64 k]) (by simp [h2, h3, h4]) ((KA W g).mono fun e w' h => by
        obtain ⟨v, rfl, q, o⟩ := h
        obtain ⟨ra, rc, e⟩ := o.slice
        exact ⟨_, rfl, q, ra, rc, e, o⟩) ?_
      rintro x w' ⟨g', ra, rc, rfl, o'⟩
      exact ⟨_, rfl, g', ra, rc, rfl, o'⟩
    · intro a W g hF hd
      refine op_load (k := bx) ((hF.same 3 (un 3 (by decide))).trans ha3) (px W g) Tryz.underlying73 rfl (by kernel_rfl) ?_
      exact ⟨_, rfl, Old.refl _, rfl⟩
    · intro a W g hF hd
      refine op_move ?_
      exact ⟨_, rfl, Old.refl _, (hF.same 8 (un 8 (by decide))).trans ha8⟩
    · intro a W g hF hd
      refine op_move ?_
      exact ⟨_, rfl, Old.refl _, (hF.same 10 (un 10 (by decide))).trans ha10⟩
    · intro a W g hF hd
      have h2 : a.eval (.tmp 32) = .agg #[.int .i64 N, .int .i64 T, .int .i64 E, .slice a3 l3 c3, .slice a4 l4 c4, .bool b5, .slice a6 l6 c6] := hd ⟨6, .data⟩ (by simp) rfl
      have h3 : a.eval (.tmp 33) = .slice (some ⟨gr, 0, none⟩) mr mr := hd ⟨7, .data⟩ (by simp) rfl
      have h4 : a.eval (.tmp 34) = .int .i64 k := hd ⟨8, .data⟩ (by simp) rfl
      refine op_call_ret (R := fun v w' => Old W w' ∧ ∃ ra rc, v = .slice ra ps.length rc ∧ RdX N' ps Rf B w' v) Tryz.call127 (vs := #[.agg #[.int .i64 N, .int .i64 T, .int .i64 E, .slice a3 l3 c3, .slice a4 l4 c4, .bool b5, .slice a6 l6 c6], .slice (some ⟨gr, 0, none⟩) mr mr, .int .i64 k]) (by simp [h2, h3, h4]) ((KB W g).mono fun e w' h => by
        obtain ⟨v, rfl, q, o⟩ := h
        obtain ⟨ra, rc, e⟩ := o.slice
        exact ⟨_, rfl, q, ra, rc, e, o⟩) ?_
      rintro x w' ⟨g', ra, rc, rfl, o'⟩
      exact ⟨_, rfl, g', ra, rc, rfl, o'⟩
    · intro a W g hF hd
      obtain ⟨sa, sc, h5, os⟩ : ∃ a' c, a.eval (.tmp 31) = .slice a' ps.length c ∧ RdX N' ps Rf A W (a.eval (.tmp 31)) := hd ⟨5, .data⟩ (by simp) rfl
      obtain ⟨ta, tc, h9, ot⟩ : ∃ a' c, a.eval (.tmp 35) = .slice a' ps.length c ∧ RdX N' ps Rf B W (a.eval (.tmp 35)) := hd ⟨9, .data⟩ (by simp) rfl
      rw [h5] at os
      rw [h9] at ot
      refine op_call_ret (R := fun v w' => Old W w' ∧ ∃ ra rc, v = .slice ra ps.length rc ∧ Ows (TS 118 5 ps.length Es) w' W.heap.size w'.heap.size [v]) Tryz.call75 (vs := #[.slice sa ps.length sc, .slice ta ps.length tc, .func (.func 128) #[] #[]]) (by simp [h5, h9]; rfl) ((KJ W g _ _ os ot).mono fun e w' h => by
        obtain ⟨v, rfl, q, o⟩ := h
        obtain ⟨ra, rc, e⟩ : ∃ a c, v = .slice a ps.length c := by obtain ⟨_, B, hT, _⟩ := o; exact TS.slice hT
        exact ⟨_, rfl, q, ra, rc, e, o⟩) ?_
      rintro x w' ⟨g', ra, rc, rfl, o'⟩
      exact ⟨_, rfl, g', ra, rc, rfl, o'.low g.size (Nat.le_refl _) (Nat.le_refl _)⟩
    · intro a W g hF hd
      have h0 : a.eval (.tmp 26) = .slice (some ⟨sb, 0, none⟩) M M := hd ⟨0, .data⟩ (by simp) rfl
      have h1 : a.eval (.tmp 27) = .int .i64 k := hd ⟨1, .data⟩ (by simp) rfl
      obtain ⟨ρ, hρ⟩ : ∃ ρ, a.eval = ρ := ⟨_, rfl⟩
      rw [hρ] at h0 h1
      refine op_val ρ hρ (.pointer (some ⟨sb, k, none⟩)) ?_ ⟨_, rfl, Old.refl _, rfl⟩
      clear g hF hd hρ HK un ha3 ha7 ha8 ha9 ha10 KA KB KJ px bX hcs hfr
      go_simp
  · intro a W g hF hq
    obtain ⟨sa, sc, h5, ow⟩ : ∃ a' c, a.eval (.tmp 36) = .slice a' ps.length c ∧ Ows (TS 118 5 ps.length Es) W w0.heap.size W.heap.size [a.eval (.tmp 36)] := hq 10 (by decide)
    have h6 : a.eval (.tmp 37) = .pointer (some ⟨sb, k, none⟩) := hq 11 (by decide)
    rw [h5] at ow
    have hp := fram_put hF (fun i j hi hj => slotSm_inj i hi j hj)
    have hk2 := HK.out (fun i => a.eval (.tmp (slotSm i))) W sa sc g ow
    rw [← hp] at hk2
    obtain ⟨y, hc5⟩ := hcs W g
    have hf5 := hfr W g
    clear ow hq hF HK un g hp KA KB KJ px bX hcs hfr
    obtain ⟨ρ, hρ⟩ : ∃ ρ, a.eval = ρ := ⟨_, rfl⟩
    rw [hρ] at h5 h6
    refine op_skp (W' := W.setCell ⟨sb, k, none⟩ (.slice sa ps.length sc)) ρ hρ ?_ ?_
    · clear hρ hk2
      go_simp
    · exact hk2
end Go.Proofs.YtakleianimcmdaaGreatDoor
/- Proved: the drawn region of AddPlain: the rows lifted, their sum with the cipher's, the cipher of it. -/
namespace Go.Proofs.YtakleianimcmdaaGreatDoor
open Go.ChangeShapes Go.WideShapes Go.ChangeAt Go.RowKit
set_option linter.unusedVariables false
set_option linter.unusedSimpArgs false
def slotAp (i : Nat) : Nat := [40, 41, 42, 43, 44, 45, 46, 47, 48, 49].getD i 0
theorem slotAp_lt : ∀ i, i < 10 → slotAp i < 50 := by decide
theorem slotAp_inj : ∀ i, i < 10 → ∀ j, j < 10 → slotAp i = slotAp j → i = j := by decide
theorem slotAp_no : ∀ s, s < 20 → ∀ i, i < 10 → slotAp i ≠ s := by decide
def qAp (RK : Array Value) (IFA mv nv : Value) (L M C : Nat) (PL PS PC : World → Value → Prop) (i : Nat) (W : World) (x : Value) : Prop :=
  match i with
  | 0 => x = .agg RK
  | 1 => x = IFA
  | 2 => x = .agg RK
  | 3 => x = mv
  | 4 => ∃ a c, x = .slice a L c ∧ PL W x
  | 5 => x = nv
  | 6 => ∃ a c, x = .agg #[.slice a L c, nv] ∧ PL W (.slice a L c)
  | 7 => ∃ a c, x = .iface 125 (.agg #[.slice a L c, nv]) ∧ PL W (.slice a L c)
  | 8 => ∃ a c, x = .slice a M c ∧ PS W x
  | 9 => ∃ a c, x = .agg #[.slice a C c] ∧ PC W (.slice a C c)
  | _ => True
theorem qAp_old (RK : Array Value) (IFA mv nv : Value) (L M C : Nat) (PL PS PC : World → Value → Prop) (hL : ∀ W W' v, PL W v → Old W W' → PL W' v) (hS : ∀ W W' v, PS W v → Old W W' → PS W' v) (hC : ∀ W W' v, PC W v → Old W W' → PC W' v) (i : Nat) (W W' : World) (x : Value) (h : qAp RK IFA mv nv L M C PL PS PC i W x) (q : Old W W') : qAp RK IFA mv nv L M C PL PS PC i W' x := by
  unfold qAp at h ⊢
  split at h
  case h_5 =>
    obtain ⟨a, c, e, o⟩ := h
    exact ⟨a, c, e, hL _ _ _ o q⟩
  case h_7 =>
    obtain ⟨a, c, e, o⟩ := h
    exact ⟨a, c, e, hL _ _ _ o q⟩
  case h_8 =>
    obtain ⟨a, c, e, o⟩ := h
    exact ⟨a, c, e, hL _ _ _ o q⟩
  case h_9 =>
    obtain ⟨a, c, e, o⟩ := h
    exact ⟨a, c, e, hS _ _ _ o q⟩
  case h_10 =>
    obtain ⟨a, c, e, o⟩ := h
    exact ⟨a, c, e, hC _ _ _ o q⟩
  all_goals first | exact h | trivial
set_option maxRecDepth 100000 in
set_option maxHeartbeats 8000000 in
theorem reg_Ap (w0 : World) (bx rb : Nat) (N T E : Int) (a3 : Option Addr) (l3 c3 : Nat) (a4 : Option Addr) (l4 c4 : Nat) (b5 : Bool) (a6 : Option Addr) (l6 c6 : Nat) (IFA : Value) (ma : Option Addr) (ml mc : Nat) (na : Option Addr) (ln nc : Nat) (L M C : Nat) (PL PS PC : World → Value → Prop)
    (hL : ∀ W W' v, PL W v → Old W W' → PL W' v) (hS : ∀ W W' v, PS W v → Old W W' → PS W' v) (hC : ∀ W W' v, PC W v → Old W W' → PC W' v)
    (bX : w0.heap[bx]? = some (.cells #[.int .i64 N, .int .i64 T, .int .i64 E, .slice a3 l3 c3, .slice a4 l4 c4, .bool b5, .slice a6 l6 c6] 73 (0, 0)))
    (bR : w0.heap[rb]? = some (.cells #[.slice none 0 0] 42 (0, 0)))
    (KL : ∀ W, Old w0 W → Calls Tryz.prog 80 #[.agg #[.int .i64 N, .int .i64 T, .int .i64 E, .slice a3 l3 c3, .slice a4 l4 c4, .bool b5, .slice a6 l6 c6], .slice ma ml mc] W fun e w' => ∃ v, e = .returned v ∧ Old W w' ∧ ∃ a c, v = .slice a L c ∧ PL w' v)
    (KS : ∀ W a c, Old w0 W → PL W (.slice a L c) → Calls Tryz.prog 67 #[.agg #[.int .i64 N, .int .i64 T, .int .i64 E, .slice a3 l3 c3, .slice a4 l4 c4, .bool b5, .slice a6 l6 c6], IFA, .iface 125 (.agg #[.slice a L c, .slice na ln nc])] W fun e w' => ∃ v, e = .returned v ∧ Old W w' ∧ ∃ a c, v = .slice a M c ∧ PS w' v)
    (KC : ∀ W a c, Old w0 W → PS W (.slice a M c) → Calls Tryz.prog 66 #[.slice a M c] W fun e w' => ∃ v, e = .returned v ∧ Old W w' ∧ ∃ a c, v = .agg #[.slice a C c] ∧ PC w' (.slice a C c))
    (Q : Exit → Act → World → Prop) (a0 : Act) (hsz : a0.tmps.size = 50)
    (ha8 : a0.eval (.tmp 8) = .pointer (some ⟨bx, 0, none⟩)) (ha6 : a0.eval (.tmp 6) = .pointer (some ⟨rb, 0, none⟩)) (ha10 : a0.eval (.tmp 10) = IFA) (ha2 : a0.eval (.tmp 2) = .slice ma ml mc) (ha12 : a0.eval (.tmp 12) = .slice na ln nc)
    (HK : Hid (∀ (us : Nat → Value) W a c, Old w0 W → PC W (.slice a C c) → Q .normal ((putAll a0 ((List.range 10).map fun i => (slotAp i, us i))).put (some 7) (.bool true)) (W.setRow rb #[.slice a C c]))) :
    Code.wp Tryz.prog ((Tryz.f31.body.bind (regionAtmul 6)).getD .skip) Q a0 w0 := by
  conv => arg 2; whnf
  have un := slotAp_no
  have px : ∀ W, Old w0 W → W.heap[bx]? = some (.cells #[.int .i64 N, .int .i64 T, .int .i64 E, .slice a3 l3 c3, .slice a4 l4 c4, .bool b5, .slice a6 l6 c6] 73 (0, 0)) := fun W g => (g.block bx (lt_of_some bX)).trans bX
  have pr : ∀ W, Old w0 W → W.heap[rb]? = some (.cells #[.slice none 0 0] 42 (0, 0)) := fun W g => (g.block rb (lt_of_some bR)).trans bR
  refine wp_region_tail 10 (by decide) (by kernel_rfl) (by kernel_rfl) (by kernel_rfl) (by kernel_rfl) (by kernel_rfl) slotAp (fun i hi => by rw [hsz]; exact slotAp_lt i hi) (fun i j hi hj => slotAp_inj i hi j hj) (qAp #[.int .i64 N, .int .i64 T, .int .i64 E, .slice a3 l3 c3, .slice a4 l4 c4, .bool b5, .slice a6 l6 c6] IFA (.slice ma ml mc) (.slice na ln nc) L M C PL PS PC) (qAp_old _ _ _ _ L M C PL PS PC hL hS hC) ?_ ?_
  · refine ⟨?_, ?_, ?_, ?_, ?_, ?_, ?_, ?_, ?_, ?_, trivial⟩
    · intro a W g hF hd
      refine op_load (k := bx) ((hF.same 8 (un 8 (by decide))).trans ha8) (px W g) Tryz.underlying73 rfl (by kernel_rfl) ?_
      exact ⟨_, rfl, Old.refl _, rfl⟩
    · intro a W g hF hd
      refine op_move ?_
      exact ⟨_, rfl, Old.refl _, (hF.same 10 (un 10 (by decide))).trans ha10⟩
    · intro a W g hF hd
      refine op_load (k := bx) ((hF.same 8 (un 8 (by decide))).trans ha8) (px W g) Tryz.underlying73 rfl (by kernel_rfl) ?_
      exact ⟨_, rfl, Old.refl _, rfl⟩
    · intro a W g hF hd
      refine op_move ?_
      exact ⟨_, rfl, Old.refl _, (hF.same 2 (un 2 (by decide))).trans ha2⟩
    · intro a W g hF hd
      have h2 : a.eval (.tmp 42) = .agg #[.int .i64 N, .int .i64 T, .int .i64 E, .slice a3 l3 c3, .slice a4 l4 c4, .bool b5, .slice a6 l6 c6] := hd ⟨2, .data⟩ (by simp) rfl
      have h3 : a.eval (.tmp 43) = .slice ma ml mc := hd ⟨3, .data⟩ (by simp) rfl
      refine op_call_ret Tryz.call80 (vs := #[.agg #[.int .i64 N, .int .i64 T, .int .i64 E, .slice a3 l3 c3, .slice a4 l4 c4, .bool b5, .slice a6 l6 c6], .slice ma ml mc]) (by simp [h2, h3]) (KL W g) ?_
      rintro x w' ⟨g', ra, rc, rfl, o'⟩
      exact ⟨_, rfl, g', ra, rc, rfl, o'⟩
    · intro a W g hF hd
      refine op_move ?_
      exact ⟨_, rfl, Old.refl _, (hF.same 12 (un 12 (by decide))).trans ha12⟩
    · intro a W g hF hd
      obtain ⟨ra, rc, h4, o4⟩ : ∃ ra rc, a.eval (.tmp 44) = .slice ra L rc ∧ PL W (a.eval (.tmp 44)) := hd ⟨4, .data⟩ (by simp) rfl
      have h5 : a.eval (.tmp 45) = .slice na ln nc := hd ⟨5, .data⟩ (by simp) rfl
      rw [h4] at o4
      obtain ⟨ρ, hρ⟩ : ∃ ρ, a.eval = ρ := ⟨_, rfl⟩
      rw [hρ] at h4 h5
      refine op_val ρ hρ (.agg #[.slice ra L rc, .slice na ln nc]) ?_ ⟨_, rfl, Old.refl _, ra, rc, rfl, o4⟩
      clear g hF hd hρ ha2 ha6 ha8 ha10 ha12 HK un KL KS KC px pr bX bR o4
      go_simp
    · intro a W g hF hd
      obtain ⟨ra, rc, h6, o6⟩ : ∃ ra rc, a.eval (.tmp 46) = .agg #[.slice ra L rc, .slice na ln nc] ∧ PL W (.slice ra L rc) := hd ⟨6, .data⟩ (by simp) rfl
      obtain ⟨ρ, hρ⟩ : ∃ ρ, a.eval = ρ := ⟨_, rfl⟩
      rw [hρ] at h6
      refine op_val ρ hρ (.iface 125 (.agg #[.slice ra L rc, .slice na ln nc])) ?_ ⟨_, rfl, Old.refl _, ra, rc, rfl, o6⟩
      clear g hF hd hρ ha2 ha6 ha8 ha10 ha12 HK un KL KS KC px pr bX bR o6
      go_simp
    · intro a W g hF hd
      have h0 : a.eval (.tmp 40) = .agg #[.int .i64 N, .int .i64 T, .int .i64 E, .slice a3 l3 c3, .slice a4 l4 c4, .bool b5, .slice a6 l6 c6] := hd ⟨0, .data⟩ (by simp) rfl
      have h1 : a.eval (.tmp 41) = IFA := hd ⟨1, .data⟩ (by simp) rfl
      obtain ⟨ra, rc, h7, o7⟩ : ∃ ra rc, a.eval (.tmp 47) = .iface 125 (.agg #[.slice ra L rc, .slice na ln nc]) ∧ PL W (.slice ra L rc) := hd ⟨7, .data⟩ (by simp) rfl
      refine op_call_ret Tryz.call67 (vs := #[.agg #[.int .i64 N, .int .i64 T, .int .i64 E, .slice a3 l3 c3, .slice a4 l4 c4, .bool b5, .slice a6 l6 c6], IFA, .iface 125 (.agg #[.slice ra L rc, .slice na ln nc])]) (by simp [h0, h1, h7]) (KS W ra rc g o7) ?_
      rintro x w' ⟨g', sa, sc, rfl, o'⟩
      exact ⟨_, rfl, g', sa, sc, rfl, o'⟩
    · intro a W g hF hd
      obtain ⟨sa, sc, h8, o8⟩ : ∃ sa sc, a.eval (.tmp 48) = .slice sa M sc ∧ PS W (a.eval (.tmp 48)) := hd ⟨8, .data⟩ (by simp) rfl
      rw [h8] at o8
      refine op_call_ret Tryz.call66 (vs := #[.slice sa M sc]) (by simp [h8]) (KC W sa sc g o8) ?_
      rintro x w' ⟨g', ca, cc, rfl, o'⟩
      exact ⟨_, rfl, g', ca, cc, rfl, o'⟩
  · intro a W g hF hq
    obtain ⟨ca, cc, h9, o9⟩ : ∃ ca cc, a.eval (.tmp 49) = .agg #[.slice ca C cc] ∧ PC W (.slice ca C cc) := hq 9 (by decide)
    have h6 := (hF.same 6 (un 6 (by decide))).trans ha6
    have hp := fram_put hF (fun i j hi hj => slotAp_inj i hi j hj)
    have hk := HK.out (fun i => a.eval (.tmp (slotAp i))) W ca cc g o9
    rw [← hp] at hk
    refine op_store (k := rb) h6 h9 (pr W g) (by kernel_rfl) rfl (by simp [Value.oneCell']) ?_
    refine op_assign ?_
    exact hk
end Go.Proofs.YtakleianimcmdaaGreatDoor
/- Proved: the sum of two ciphers, Part by Part. -/
namespace Go.Proofs.YtakleianimcmdaaGreatDoor
open Go.ChangeShapes Go.WideShapes Go.ChangeAt Go.RowKit
set_option linter.unusedVariables false
set_option linter.unusedSimpArgs false
set_option maxRecDepth 100000 in
set_option maxHeartbeats 4000000 in
theorem sum_22 (N T E : Int) (a3 : Option Addr) (l3 c3 : Nat) (a4 : Option Addr) (l4 c4 : Nat) (b5 : Bool) (a6 : Option Addr) (l6 c6 : Nat) (ps : List Int) (Rf : Nat → Int) (zsss : List (List (List Int))) (A B : Nat → List (List Int)) (L : Nat) (gf hf : Nat → Option Addr) (w : World)
    (KA : ∀ j : Nat, j < 2 → ∀ W, Old w W → ∀ p : Nat, p < W.heap.size → (∀ i : Nat, i < 2 → W.cell? ⟨p, i, none⟩ = some (.slice (gf i) L L)) → Calls Tryz.prog 127 #[.agg #[.int .i64 N, .int .i64 T, .int .i64 E, .slice a3 l3 c3, .slice a4 l4 c4, .bool b5, .slice a6 l6 c6], .slice (some ⟨p, 0, none⟩) 2 2, .int .i64 j] W fun e w' => ∃ v', e = .returned v' ∧ Old W w' ∧ RdX N ps Rf (A j) w' v')
    (KB : ∀ j : Nat, j < 2 → ∀ W, Old w W → ∀ p : Nat, p < W.heap.size → (∀ i : Nat, i < 2 → W.cell? ⟨p, i, none⟩ = some (.slice (hf i) L L)) → Calls Tryz.prog 127 #[.agg #[.int .i64 N, .int .i64 T, .int .i64 E, .slice a3 l3 c3, .slice a4 l4 c4, .bool b5, .slice a6 l6 c6], .slice (some ⟨p, 0, none⟩) 2 2, .int .i64 j] W fun e w' => ∃ v', e = .returned v' ∧ Old W w' ∧ RdX N ps Rf (B j) w' v')
    (KJ : ∀ j : Nat, j < 2 → ∀ W, Old w W → ∀ v1 v2, RdX N ps Rf (A j) W v1 → RdX N ps Rf (B j) W v2 → Calls Tryz.prog 75 #[v1, v2, .func (.func 128) #[] #[]] W fun e w' => ∃ v', e = .returned v' ∧ Old W w' ∧ Ows (TS 118 5 ps.length (elR N false ps Rf (zsss.getD j []))) w' W.heap.size w'.heap.size [v']) :
    Calls Tryz.prog 67 #[.agg #[.int .i64 N, .int .i64 T, .int .i64 E, .slice a3 l3 c3, .slice a4 l4 c4, .bool b5, .slice a6 l6 c6], .iface 125 (.agg #[.slice (gf 0) L L, .slice (gf 1) L L]), .iface 125 (.agg #[.slice (hf 0) L L, .slice (hf 1) L L])] w fun e w' => ∃ v', e = .returned v' ∧ Old w w' ∧ Ows (TS 109 1 2 (elP N false ps Rf zsss)) w' w.heap.size w'.heap.size [v'] := by
  obtain ⟨i0, hi, hz0, hz1, hz2⟩ := info_parts Tryz.infoRRs
  have HKA : Hid (∀ j : Nat, j < 2 → ∀ W, Old w W → ∀ p : Nat, p < W.heap.size → (∀ i : Nat, i < 2 → W.cell? ⟨p, i, none⟩ = some (.slice (gf i) L L)) → Calls Tryz.prog 127 #[.agg #[.int .i64 N, .int .i64 T, .int .i64 E, .slice a3 l3 c3, .slice a4 l4 c4, .bool b5, .slice a6 l6 c6], .slice (some ⟨p, 0, none⟩) 2 2, .int .i64 j] W fun e w' => ∃ v', e = .returned v' ∧ Old W w' ∧ RdX N ps Rf (A j) w' v') := KA
  have HKB : Hid (∀ j : Nat, j < 2 → ∀ W, Old w W → ∀ p : Nat, p < W.heap.size → (∀ i : Nat, i < 2 → W.cell? ⟨p, i, none⟩ = some (.slice (hf i) L L)) → Calls Tryz.prog 127 #[.agg #[.int .i64 N, .int .i64 T, .int .i64 E, .slice a3 l3 c3, .slice a4 l4 c4, .bool b5, .slice a6 l6 c6], .slice (some ⟨p, 0, none⟩) 2 2, .int .i64 j] W fun e w' => ∃ v', e = .returned v' ∧ Old W w' ∧ RdX N ps Rf (B j) w' v') := KB
  have HKJ : Hid (∀ j : Nat, j < 2 → ∀ W, Old w W → ∀ v1 v2, RdX N ps Rf (A j) W v1 → RdX N ps Rf (B j) W v2 → Calls Tryz.prog 75 #[v1, v2, .func (.func 128) #[] #[]] W fun e w' => ∃ v', e = .returned v' ∧ Old W w' ∧ Ows (TS 118 5 ps.length (elR N false ps Rf (zsss.getD j []))) w' W.heap.size w'.heap.size [v']) := KJ
  have HGD : Hid (∀ j, GoodT (elP N false ps Rf zsss j)) := good_elP N false ps Rf zsss
  have BX : Hid (Bk (w.alloc (.cells #[.int .i64 N, .int .i64 T, .int .i64 E, .slice a3 l3 c3, .slice a4 l4 c4, .bool b5, .slice a6 l6 c6] 73)) w.heap.size #[.int .i64 N, .int .i64 T, .int .i64 E, .slice a3 l3 c3, .slice a4 l4 c4, .bool b5, .slice a6 l6 c6] 73) := Bk.new' w _ _ rfl
  have HA : Hid (Old w (w.alloc (.cells #[.int .i64 N, .int .i64 T, .int .i64 E, .slice a3 l3 c3, .slice a4 l4 c4, .bool b5, .slice a6 l6 c6] 73))) := (Old.refl w).alloc _
  have cp := parts2 (gf 0) (gf 1) L (w.alloc (.cells #[.int .i64 N, .int .i64 T, .int .i64 E, .slice a3 l3 c3, .slice a4 l4 c4, .bool b5, .slice a6 l6 c6] 73))
  have hs0 : (w.alloc (.cells #[.int .i64 N, .int .i64 T, .int .i64 E, .slice a3 l3 c3, .slice a4 l4 c4, .bool b5, .slice a6 l6 c6] 73)).heap.size = w.heap.size + 1 := by simp
  rw [hs0] at cp
  clear KA KB KJ hs0
  go_enter Tryz.func67, Tryz.ntmps67
  go_wp2_with fail
  refine cp.mono ?_
  rintro e w1 ⟨rfl, g1, hs1, c0, c1⟩
  have HG1 : Hid (Old w w1) := Old.trans HA.out g1
  have BX1 : Hid (Bk w1 w.heap.size #[.int .i64 N, .int .i64 T, .int .i64 E, .slice a3 l3 c3, .slice a4 l4 c4, .bool b5, .slice a6 l6 c6] 73) := BX.out.old g1
  have HC1 : Hid (∀ i, i < 2 → w1.cell? ⟨w.heap.size + 1 + 1, i, none⟩ = some (.slice (gf i) L L)) := fun i hi => by
    rcases (show i = 0 ∨ i = 1 by omega) with rfl | rfl
    · exact c0
    · exact c1
  clear g1 cp c0 c1 BX
  have cp := parts2 (hf 0) (hf 1) L w1
  go_wp2_with fail
  refine cp.mono ?_
  rintro e w2 ⟨rfl, g1, hs2, c0, c1⟩
  have HG12 : Hid (Old w1 w2) := g1
  have HG2 : Hid (Old w w2) := Old.trans HG1.out g1
  have BX2 : Hid (Bk w2 w.heap.size #[.int .i64 N, .int .i64 T, .int .i64 E, .slice a3 l3 c3, .slice a4 l4 c4, .bool b5, .slice a6 l6 c6] 73) := BX1.out.old g1
  have HC2 : Hid (∀ i, i < 2 → w2.cell? ⟨w1.heap.size + 1, i, none⟩ = some (.slice (hf i) L L)) := fun i hi => by
    rcases (show i = 0 ∨ i = 1 by omega) with rfl | rfl
    · exact c0
    · exact c1
  have HC1' : Hid (∀ i, i < 2 → w2.cell? ⟨w.heap.size + 1 + 1, i, none⟩ = some (.slice (gf i) L L)) := fun i hi' => (HG12.out.cell (p := ⟨w.heap.size + 1 + 1, i, none⟩) hs1).trans (HC1.out i hi')
  have hs12 := g1.size
  have hsw := HG1.out.size
  clear g1 cp c0 c1 BX1 HC1 HG12
  go_wp2_with (at_make; refine wpList_make_full _ rfl _ _ 105 rfl 0 109 i0 (.slice none 0 0) 1 Tryz.underlying105 hi hz0 hz1 .i64 .i64 _ _ 2 rfl rfl rfl rfl (by rw [hz2]; omega) (by unfold maxLen; omega) (Nat.zero_le _) ?_; intro w3 hown hgrow)
  have HO : Hid (TSc 109 1 2 0 (elP N false ps Rf zsss) w3 w2.heap.size 2 _ (fun _ _ => False)) := TSc.start hown
  have HG23 : Hid (Old w2 w3) := grownBy_old hgrow
  clear hown hgrow
  go_loopw [23, 10] (fun i _ W => ∃ (k : Nat) (vs : List Value) (Bs : Nat → Nat → Prop), k ≤ 2 ∧ i = .int .i64 k ∧ Hid (TSc 109 1 2 k (elP N false ps Rf zsss) W w2.heap.size 2 vs Bs) ∧ Hid (∀ j b, j < k → Bs j b → w2.heap.size < b) ∧ Hid (Old w2 W)) (fun i _ _ => 2 - (intOf i).toNat)
  case atStart => exact ⟨0, _, _, by omega, rfl, HO, (fun j b hj => by omega), HG23⟩
  case round =>
    obtain ⟨k, vs, Bs, hk, rfl, H1, HB, HG⟩ := hrel
    clear HO HG23
    have hsr : w2.heap.size < wr.heap.size := ownsRow_lt H1.out.row
    have HGW : Hid (Old w wr) := Old.trans HG2.out HG.out
    by_cases hlt : k < 2
    · have d1 : decide ((k : Int) < 2) = true := by simp; omega
      go_wp2_with fail
      refine reg_Sm wr w.heap.size w2.heap.size 2 k N T E a3 l3 c3 a4 l4 c4 b5 a6 l6 c6 (w.heap.size + 1 + 1) 2 (w1.heap.size + 1) 2 N ps Rf (A k) (B k) (elR N false ps Rf (zsss.getD k [])) (good_elR _ _ _ _ _) (by omega) (by omega) (BX2.out.old HG.out) (fun W g => ?_) (fun W g => (H1.out.old HGD.out g).frozen _) (fun W g => HKA.out k hlt W (Old.trans HGW.out g) _ (by have := g.size; omega) (fun i hi' => ((Old.trans HG.out g).cell (p := ⟨w.heap.size + 1 + 1, i, none⟩) (by show w.heap.size + 1 + 1 < _; omega)).trans (HC1'.out i hi'))) (fun W g => HKB.out k hlt W (Old.trans HGW.out g) _ (by have := g.size; omega) (fun i hi' => ((Old.trans HG.out g).cell (p := ⟨w1.heap.size + 1, i, none⟩) hs2).trans (HC2.out i hi'))) (fun W g v1 v2 q1 q2 => HKJ.out k hlt W (Old.trans HGW.out g) v1 v2 q1 q2) _ _ ?_ ?_ ?_ ?_ ?_ ?_ ?_
      · have H2 := H1.out.old HGD.out g
        have h5 := H2.cell k 0 hlt (by omega)
        rw [Nat.mul_one, Nat.add_zero] at h5
        have h6 := cellsJ_len H2.row.1 k hlt
        exact ⟨_, h5.trans (List.getElem?_eq_getElem (by omega))⟩
      iterate 6 (· exact rfl)
      intro us3 w4 a9 c9 g3 o3
      simp only [putAll, Act.put, slotSm, List.range, List.range.loop, List.map_cons, List.map_nil, List.getD_cons_zero, List.getD_cons_succ, List.setIfInBounds_toArray, List.set_cons_succ, List.set_cons_zero]
      have H2 := H1.out.old HGD.out g3
      obtain ⟨_, BB, hT, hBlo⟩ := o3
      have hst := H2.storeT HGD.out hlt (.slice a9 ps.length c9) (B := BB) (fun W' hW' => (good_elP N false ps Rf zsss k).far hT (fun b hb => hW' b (by have := hBlo b hb; omega))) (fun hb => by have := hBlo _ hb; omega) (fun j hj b h1 h2 => by
          have h4 := H1.out.lt HGD.out j b hj h1
          have := hBlo b h2
          omega)
      obtain ⟨vs', H3⟩ := hst
      have HNN : Hid (TSc 109 1 2 (k + 1) (elP N false ps Rf zsss) (w4.setCell ⟨w2.heap.size, k, none⟩ (.slice a9 ps.length c9)) w2.heap.size 2 vs' (fun q => if q = k then BB else Bs q)) := H3
      have HNB : Hid (∀ j b, j < k + 1 → (fun q => if q = k then BB else Bs q) j b → w2.heap.size < b) := fun j b hj hb => by
        by_cases e : j = k
        · simp only [e, if_true] at hb
          have := hBlo b hb
          omega
        · simp only [e, if_false] at hb
          exact HB.out j b (by omega) hb
      have HG4 : Hid (Old w2 (w4.setCell ⟨w2.heap.size, k, none⟩ (.slice a9 ps.length c9))) := (Old.trans HG.out g3).own (p := ⟨w2.heap.size, k, none⟩) (Nat.le_refl _) _
      clear H1 H2 H3 HB g3 hT hBlo HG HGW
      go_wp2_with fail
      exact ⟨⟨k + 1, vs', _, by omega, by go_num, HNN, HNB, HG4⟩, by simp [intOf]; omega⟩
    · have d1 : decide ((k : Int) < 2) = false := by simp; omega
      obtain rfl : k = 2 := by omega
      have HE : Hid (Ows (TS 109 1 2 (elP N false ps Rf zsss)) wr w2.heap.size wr.heap.size [.slice (some ⟨w2.heap.size, 0, none⟩) 2 2]) := H1.out.done HGD.out (Nat.le_refl _) (fun j b hj hb => Nat.le_of_lt (HB.out j b hj hb))
      clear H1 HB
      go_wp2_with fail
      go_ret
      exact ⟨_, rfl, HGW.out, HE.out.low HG2.out.size (Nat.le_refl _) (Nat.le_refl _)⟩
set_option maxRecDepth 100000 in
set_option maxHeartbeats 4000000 in
theorem sum_32 (N T E : Int) (a3 : Option Addr) (l3 c3 : Nat) (a4 : Option Addr) (l4 c4 : Nat) (b5 : Bool) (a6 : Option Addr) (l6 c6 : Nat) (ps : List Int) (Rf : Nat → Int) (zsss : List (List (List Int))) (A B : Nat → List (List Int)) (L : Nat) (gf hf : Nat → Option Addr) (w : World)
    (KA : ∀ j : Nat, j < 3 → ∀ W, Old w W → ∀ p : Nat, p < W.heap.size → (∀ i : Nat, i < 3 → W.cell? ⟨p, i, none⟩ = some (.slice (gf i) L L)) → Calls Tryz.prog 127 #[.agg #[.int .i64 N, .int .i64 T, .int .i64 E, .slice a3 l3 c3, .slice a4 l4 c4, .bool b5, .slice a6 l6 c6], .slice (some ⟨p, 0, none⟩) 3 3, .int .i64 j] W fun e w' => ∃ v', e = .returned v' ∧ Old W w' ∧ RdX N ps Rf (A j) w' v')
    (KB : ∀ j : Nat, j < 3 → ∀ W, Old w W → ∀ p : Nat, p < W.heap.size → (∀ i : Nat, i < 2 → W.cell? ⟨p, i, none⟩ = some (.slice (hf i) L L)) → Calls Tryz.prog 127 #[.agg #[.int .i64 N, .int .i64 T, .int .i64 E, .slice a3 l3 c3, .slice a4 l4 c4, .bool b5, .slice a6 l6 c6], .slice (some ⟨p, 0, none⟩) 2 2, .int .i64 j] W fun e w' => ∃ v', e = .returned v' ∧ Old W w' ∧ RdX N ps Rf (B j) w' v')
    (KJ : ∀ j : Nat, j < 3 → ∀ W, Old w W → ∀ v1 v2, RdX N ps Rf (A j) W v1 → RdX N ps Rf (B j) W v2 → Calls Tryz.prog 75 #[v1, v2, .func (.func 128) #[] #[]] W fun e w' => ∃ v', e = .returned v' ∧ Old W w' ∧ Ows (TS 118 5 ps.length (elR N false ps Rf (zsss.getD j []))) w' W.heap.size w'.heap.size [v']) :
    Calls Tryz.prog 67 #[.agg #[.int .i64 N, .int .i64 T, .int .i64 E, .slice a3 l3 c3, .slice a4 l4 c4, .bool b5, .slice a6 l6 c6], .iface 167 (.agg #[.slice (gf 0) L L, .slice (gf 1) L L, .slice (gf 2) L L]), .iface 125 (.agg #[.slice (hf 0) L L, .slice (hf 1) L L])] w fun e w' => ∃ v', e = .returned v' ∧ Old w w' ∧ Ows (TS 109 1 3 (elP N false ps Rf zsss)) w' w.heap.size w'.heap.size [v'] := by
  obtain ⟨i0, hi, hz0, hz1, hz2⟩ := info_parts Tryz.infoRRs
  have HKA : Hid (∀ j : Nat, j < 3 → ∀ W, Old w W → ∀ p : Nat, p < W.heap.size → (∀ i : Nat, i < 3 → W.cell? ⟨p, i, none⟩ = some (.slice (gf i) L L)) → Calls Tryz.prog 127 #[.agg #[.int .i64 N, .int .i64 T, .int .i64 E, .slice a3 l3 c3, .slice a4 l4 c4, .bool b5, .slice a6 l6 c6], .slice (some ⟨p, 0, none⟩) 3 3, .int .i64 j] W fun e w' => ∃ v', e = .returned v' ∧ Old W w' ∧ RdX N ps Rf (A j) w' v') := KA
  have HKB : Hid (∀ j : Nat, j < 3 → ∀ W, Old w W → ∀ p : Nat, p < W.heap.size → (∀ i : Nat, i < 2 → W.cell? ⟨p, i, none⟩ = some (.slice (hf i) L L)) → Calls Tryz.prog 127 #[.agg #[.int .i64 N, .int .i64 T, .int .i64 E, .slice a3 l3 c3, .slice a4 l4 c4, .bool b5, .slice a6 l6 c6], .slice (some ⟨p, 0, none⟩) 2 2, .int .i64 j] W fun e w' => ∃ v', e = .returned v' ∧ Old W w' ∧ RdX N ps Rf (B j) w' v') := KB
  have HKJ : Hid (∀ j : Nat, j < 3 → ∀ W, Old w W → ∀ v1 v2, RdX N ps Rf (A j) W v1 → RdX N ps Rf (B j) W v2 → Calls Tryz.prog 75 #[v1, v2, .func (.func 128) #[] #[]] W fun e w' => ∃ v', e = .returned v' ∧ Old W w' ∧ Ows (TS 118 5 ps.length (elR N false ps Rf (zsss.getD j []))) w' W.heap.size w'.heap.size [v']) := KJ
  have HGD : Hid (∀ j, GoodT (elP N false ps Rf zsss j)) := good_elP N false ps Rf zsss
  have BX : Hid (Bk (w.alloc (.cells #[.int .i64 N, .int .i64 T, .int .i64 E, .slice a3 l3 c3, .slice a4 l4 c4, .bool b5, .slice a6 l6 c6] 73)) w.heap.size #[.int .i64 N, .int .i64 T, .int .i64 E, .slice a3 l3 c3, .slice a4 l4 c4, .bool b5, .slice a6 l6 c6] 73) := Bk.new' w _ _ rfl
  have HA : Hid (Old w (w.alloc (.cells #[.int .i64 N, .int .i64 T, .int .i64 E, .slice a3 l3 c3, .slice a4 l4 c4, .bool b5, .slice a6 l6 c6] 73))) := (Old.refl w).alloc _
  have cp := parts3 (gf 0) (gf 1) (gf 2) L (w.alloc (.cells #[.int .i64 N, .int .i64 T, .int .i64 E, .slice a3 l3 c3, .slice a4 l4 c4, .bool b5, .slice a6 l6 c6] 73))
  have hs0 : (w.alloc (.cells #[.int .i64 N, .int .i64 T, .int .i64 E, .slice a3 l3 c3, .slice a4 l4 c4, .bool b5, .slice a6 l6 c6] 73)).heap.size = w.heap.size + 1 := by simp
  rw [hs0] at cp
  clear KA KB KJ hs0
  go_enter Tryz.func67, Tryz.ntmps67
  go_wp2_with fail
  refine cp.mono ?_
  rintro e w1 ⟨rfl, g1, hs1, c0, c1, c2⟩
  have HG1 : Hid (Old w w1) := Old.trans HA.out g1
  have BX1 : Hid (Bk w1 w.heap.size #[.int .i64 N, .int .i64 T, .int .i64 E, .slice a3 l3 c3, .slice a4 l4 c4, .bool b5, .slice a6 l6 c6] 73) := BX.out.old g1
  have HC1 : Hid (∀ i, i < 3 → w1.cell? ⟨w.heap.size + 1 + 1, i, none⟩ = some (.slice (gf i) L L)) := fun i hi => by
    rcases (show i = 0 ∨ i = 1 ∨ i = 2 by omega) with rfl | rfl | rfl
    · exact c0
    · exact c1
    · exact c2
  clear g1 cp c0 c1 c2 BX
  have cp := parts2 (hf 0) (hf 1) L w1
  go_wp2_with fail
  refine cp.mono ?_
  rintro e w2 ⟨rfl, g1, hs2, c0, c1⟩
  have HG12 : Hid (Old w1 w2) := g1
  have HG2 : Hid (Old w w2) := Old.trans HG1.out g1
  have BX2 : Hid (Bk w2 w.heap.size #[.int .i64 N, .int .i64 T, .int .i64 E, .slice a3 l3 c3, .slice a4 l4 c4, .bool b5, .slice a6 l6 c6] 73) := BX1.out.old g1
  have HC2 : Hid (∀ i, i < 2 → w2.cell? ⟨w1.heap.size + 1, i, none⟩ = some (.slice (hf i) L L)) := fun i hi => by
    rcases (show i = 0 ∨ i = 1 by omega) with rfl | rfl
    · exact c0
    · exact c1
  have HC1' : Hid (∀ i, i < 3 → w2.cell? ⟨w.heap.size + 1 + 1, i, none⟩ = some (.slice (gf i) L L)) := fun i hi' => (HG12.out.cell (p := ⟨w.heap.size + 1 + 1, i, none⟩) hs1).trans (HC1.out i hi')
  have hs12 := g1.size
  have hsw := HG1.out.size
  clear g1 cp c0 c1 BX1 HC1 HG12
  go_wp2_with (at_make; refine wpList_make_full _ rfl _ _ 105 rfl 0 109 i0 (.slice none 0 0) 1 Tryz.underlying105 hi hz0 hz1 .i64 .i64 _ _ 3 rfl rfl rfl rfl (by rw [hz2]; omega) (by unfold maxLen; omega) (Nat.zero_le _) ?_; intro w3 hown hgrow)
  have HO : Hid (TSc 109 1 3 0 (elP N false ps Rf zsss) w3 w2.heap.size 3 _ (fun _ _ => False)) := TSc.start hown
  have HG23 : Hid (Old w2 w3) := grownBy_old hgrow
  clear hown hgrow
  go_loopw [23, 10] (fun i _ W => ∃ (k : Nat) (vs : List Value) (Bs : Nat → Nat → Prop), k ≤ 3 ∧ i = .int .i64 k ∧ Hid (TSc 109 1 3 k (elP N false ps Rf zsss) W w2.heap.size 3 vs Bs) ∧ Hid (∀ j b, j < k → Bs j b → w2.heap.size < b) ∧ Hid (Old w2 W)) (fun i _ _ => 3 - (intOf i).toNat)
  case atStart => exact ⟨0, _, _, by omega, rfl, HO, (fun j b hj => by omega), HG23⟩
  case round =>
    obtain ⟨k, vs, Bs, hk, rfl, H1, HB, HG⟩ := hrel
    clear HO HG23
    have hsr : w2.heap.size < wr.heap.size := ownsRow_lt H1.out.row
    have HGW : Hid (Old w wr) := Old.trans HG2.out HG.out
    by_cases hlt : k < 3
    · have d1 : decide ((k : Int) < 3) = true := by simp; omega
      go_wp2_with fail
      refine reg_Sm wr w.heap.size w2.heap.size 3 k N T E a3 l3 c3 a4 l4 c4 b5 a6 l6 c6 (w.heap.size + 1 + 1) 3 (w1.heap.size + 1) 2 N ps Rf (A k) (B k) (elR N false ps Rf (zsss.getD k [])) (good_elR _ _ _ _ _) (by omega) (by omega) (BX2.out.old HG.out) (fun W g => ?_) (fun W g => (H1.out.old HGD.out g).frozen _) (fun W g => HKA.out k hlt W (Old.trans HGW.out g) _ (by have := g.size; omega) (fun i hi' => ((Old.trans HG.out g).cell (p := ⟨w.heap.size + 1 + 1, i, none⟩) (by show w.heap.size + 1 + 1 < _; omega)).trans (HC1'.out i hi'))) (fun W g => HKB.out k hlt W (Old.trans HGW.out g) _ (by have := g.size; omega) (fun i hi' => ((Old.trans HG.out g).cell (p := ⟨w1.heap.size + 1, i, none⟩) hs2).trans (HC2.out i hi'))) (fun W g v1 v2 q1 q2 => HKJ.out k hlt W (Old.trans HGW.out g) v1 v2 q1 q2) _ _ ?_ ?_ ?_ ?_ ?_ ?_ ?_
      · have H2 := H1.out.old HGD.out g
        have h5 := H2.cell k 0 hlt (by omega)
        rw [Nat.mul_one, Nat.add_zero] at h5
        have h6 := cellsJ_len H2.row.1 k hlt
        exact ⟨_, h5.trans (List.getElem?_eq_getElem (by omega))⟩
      iterate 6 (· exact rfl)
      intro us3 w4 a9 c9 g3 o3
      simp only [putAll, Act.put, slotSm, List.range, List.range.loop, List.map_cons, List.map_nil, List.getD_cons_zero, List.getD_cons_succ, List.setIfInBounds_toArray, List.set_cons_succ, List.set_cons_zero]
      have H2 := H1.out.old HGD.out g3
      obtain ⟨_, BB, hT, hBlo⟩ := o3
      have hst := H2.storeT HGD.out hlt (.slice a9 ps.length c9) (B := BB) (fun W' hW' => (good_elP N false ps Rf zsss k).far hT (fun b hb => hW' b (by have := hBlo b hb; omega))) (fun hb => by have := hBlo _ hb; omega) (fun j hj b h1 h2 => by
          have h4 := H1.out.lt HGD.out j b hj h1
          have := hBlo b h2
          omega)
      obtain ⟨vs', H3⟩ := hst
      have HNN : Hid (TSc 109 1 3 (k + 1) (elP N false ps Rf zsss) (w4.setCell ⟨w2.heap.size, k, none⟩ (.slice a9 ps.length c9)) w2.heap.size 3 vs' (fun q => if q = k then BB else Bs q)) := H3
      have HNB : Hid (∀ j b, j < k + 1 → (fun q => if q = k then BB else Bs q) j b → w2.heap.size < b) := fun j b hj hb => by
        by_cases e : j = k
        · simp only [e, if_true] at hb
          have := hBlo b hb
          omega
        · simp only [e, if_false] at hb
          exact HB.out j b (by omega) hb
      have HG4 : Hid (Old w2 (w4.setCell ⟨w2.heap.size, k, none⟩ (.slice a9 ps.length c9))) := (Old.trans HG.out g3).own (p := ⟨w2.heap.size, k, none⟩) (Nat.le_refl _) _
      clear H1 H2 H3 HB g3 hT hBlo HG HGW
      go_wp2_with fail
      exact ⟨⟨k + 1, vs', _, by omega, by go_num, HNN, HNB, HG4⟩, by simp [intOf]; omega⟩
    · have d1 : decide ((k : Int) < 3) = false := by simp; omega
      obtain rfl : k = 3 := by omega
      have HE : Hid (Ows (TS 109 1 3 (elP N false ps Rf zsss)) wr w2.heap.size wr.heap.size [.slice (some ⟨w2.heap.size, 0, none⟩) 3 3]) := H1.out.done HGD.out (Nat.le_refl _) (fun j b hj hb => Nat.le_of_lt (HB.out j b hj hb))
      clear H1 HB
      go_wp2_with fail
      go_ret
      exact ⟨_, rfl, HGW.out, HE.out.low HG2.out.size (Nat.le_refl _) (Nat.le_refl _)⟩
end Go.Proofs.YtakleianimcmdaaGreatDoor
/- Proved: the contract of the program's AddCiphers. -/
namespace Go.Proofs.YtakleianimcmdaaGreatDoor
open Go.ChangeShapes Go.WideShapes Go.ChangeAt Go.RowKit
set_option linter.unusedVariables false
set_option linter.unusedSimpArgs false
theorem RdX_of {base Nn : Nat} {ps : List Int} {Rf : Nat → Int} {uf : Nat → Nat → Option Addr} {cf : Nat → Nat} {j : Nat} {W : World} {gp : Option Addr} {v2 : Value} {xss : List (List Int)} (hN : 2 ≤ Nn ∧ Nn ≤ 16) (hph : PhG base Nn ps Rf uf j W gp) (hra : RowsAt W v2 ps xss (uf j) cf) (hrw : rwB Nn ps xss = true) : RdX Nn ps Rf xss W (.slice gp ps.length ps.length) := by
  obtain ⟨gn, rfl, _, hrr⟩ := hph
  obtain ⟨bb, cc, _, hbb, hrow⟩ := hra
  obtain ⟨hxl, hpoly⟩ := rw_parts hrw
  refine ⟨_, hrr.rd, fun k hk => ?_⟩
  obtain ⟨q1, q2⟩ := poly_parts (hpoly k hk)
  have hlx : (xss.getD k []).length = Nn := by omega
  obtain ⟨_, hcf, r2⟩ := hrow k (by omega)
  rw [hlx] at r2
  rw [show ((Nn : Int).toNat) = Nn by omega, hlx]
  exact ⟨r2.recap (by intro h; rw [h] at hlx; simp at hlx; omega), _, _, rfl⟩
theorem part_any (Nn : Nat) (ps : List Int) (Rf : Nat → Int) (T E : Int) (a3 : Option Addr) (l3 c3 : Nat) (gr : Nat) (b5 : Bool) (a6 : Option Addr) (l6 c6 : Nat) (m : Nat) (hm : m ≤ 3) (X : Nat → List (List Int)) (gf : Nat → Option Addr) (w0 : World) (hX : ∀ i, i < m → RdX Nn ps Rf (X i) w0 (.slice (gf i) ps.length ps.length)) (hr : Rgs w0 gr Nn ps Rf ps.length) (hN : 2 ≤ Nn ∧ Nn ≤ 16) (hps : 1 ≤ ps.length ∧ ps.length ≤ 6) (hpb : ∀ k, k < ps.length → 2 ≤ ps.getD k 0 ∧ ps.getD k 0 ≤ 268435456) (j : Nat) (W : World) (g : Old w0 W) (p : Nat) (hp : p < W.heap.size) (hc : ∀ i : Nat, i < m → W.cell? ⟨p, i, none⟩ = some (.slice (gf i) ps.length ps.length)) :
    Calls Tryz.prog 127 #[.agg #[.int .i64 Nn, .int .i64 T, .int .i64 E, .slice a3 l3 c3, .slice (some ⟨gr, 0, none⟩) ps.length ps.length, .bool b5, .slice a6 l6 c6], .slice (some ⟨p, 0, none⟩) m m, .int .i64 j] W fun e w' => ∃ v', e = .returned v' ∧ Old W w' ∧ RdX Nn ps Rf (if j < m then X j else smS ps (List.replicate Nn 0)) w' v' := by
  by_cases h : j < m
  · rw [if_pos h]
    refine (partAt_in Nn T E a3 l3 c3 _ _ _ b5 a6 l6 c6 p m j (gf j) ps.length ps.length W h hm hp (hc j h)).mono fun e w' h' => ?_
    exact ⟨_, h'.1, h'.2, ((hX j h).old g).old h'.2⟩
  · rw [if_neg h]
    exact partAt_out Nn ps Rf T E a3 l3 c3 gr b5 a6 l6 c6 p m j W h hm (hr.old g) hN hps hpb
def sumZ (ps : List Int) (xsss ysss : List (List (List Int))) : List (List (List Int)) := (List.range (max xsss.length ysss.length)).map fun j => if j < xsss.length then (if j < ysss.length then pairL addF ps (xsss.getD j []) (ysss.getD j []) else xsss.getD j []) else ysss.getD j []
theorem sumZ_len (ps : List Int) (xsss ysss : List (List (List Int))) : (sumZ ps xsss ysss).length = max xsss.length ysss.length := by simp [sumZ]
theorem sumZ_get (ps : List Int) (xsss ysss : List (List (List Int))) (j : Nat) (h : j < max xsss.length ysss.length) : (sumZ ps xsss ysss).getD j [] = if j < xsss.length then (if j < ysss.length then pairL addF ps (xsss.getD j []) (ysss.getD j []) else xsss.getD j []) else ysss.getD j [] := by
  unfold sumZ
  rw [List.getD, List.getElem?_map, List.getElem?_range h]
  rfl
theorem sumZ_add {Nn : Nat} {ps : List Int} {xsss ysss : List (List (List Int))} (hx : ∀ j, j < xsss.length → rwB Nn ps (xsss.getD j []) = true) (hy : ∀ j, j < ysss.length → rwB Nn ps (ysss.getD j []) = true) (j : Nat) (h : j < max xsss.length ysss.length) :
    (sumZ ps xsss ysss).getD j [] = pairL addF ps (if j < xsss.length then xsss.getD j [] else smS ps (List.replicate Nn 0)) (if j < ysss.length then ysss.getD j [] else smS ps (List.replicate Nn 0)) := by
  rw [sumZ_get _ _ _ _ h]
  by_cases h1 : j < xsss.length
  · by_cases h2 : j < ysss.length
    · simp only [h1, h2, if_true]
    · simp only [h1, h2, if_true, if_false]
      exact (add_zeroR (rw_parts (hx j h1)).1 (okX_rw (hx j h1))).symm
  · have h2 : j < ysss.length := by omega
    simp only [h1, h2, if_true, if_false]
    exact (add_zeroL (rw_parts (hy j h2)).1 (okX_rw (hy j h2))).symm
theorem sumZ_row {N : Int} {ps : List Int} {xsss ysss : List (List (List Int))} (hN : N ≤ 16) (hps : ps.length ≤ 6) (hC : ciB N ps xsss = true) (hD : ciB N ps ysss = true) : (sumZ ps xsss ysss).length ≤ 3 ∧ ∀ r ∈ sumZ ps xsss ysss, r.length = ps.length ∧ ∀ q ∈ r, q.length ≤ 16 := by
  obtain ⟨hm, hB⟩ := rd_true hC
  obtain ⟨hm2, hB2⟩ := rd_true hD
  have key : ∀ xss, rwB N ps xss = true → xss.length = ps.length ∧ ∀ q ∈ xss, q.length ≤ 16 := fun xss h => by
    obtain ⟨h1, h2⟩ := rw_parts h
    refine ⟨h1, fun q hq => ?_⟩
    obtain ⟨k, hk, rfl⟩ := List.mem_iff_getElem.mp hq
    have := (poly_parts (h2 k (by omega))).1
    have e : xss.getD k [] = xss[k] := by simp [List.getD, hk]
    rw [e] at this
    omega
  refine ⟨by rw [sumZ_len]; omega, fun r hr => ?_⟩
  unfold sumZ at hr
  rw [List.mem_map] at hr
  obtain ⟨j, hj, rfl⟩ := hr
  rw [List.mem_range] at hj
  by_cases h1 : j < xsss.length
  · by_cases h2 : j < ysss.length
    · simp only [h1, h2, if_true]
      refine ⟨pairL_len _ _ _ _, fun q hq => ?_⟩
      unfold pairL at hq
      rw [List.mem_map] at hq
      obtain ⟨k, hk, rfl⟩ := hq
      rw [List.mem_range] at hk
      rw [pairR_len]
      have := (poly_parts ((rw_parts (hB j h1)).2 k hk)).1
      omega
    · simp only [h1, h2, if_true, if_false]
      exact key _ (hB j h1)
  · simp only [h1, if_false]
    exact key _ (hB2 j (by omega))
end Go.Proofs.YtakleianimcmdaaGreatDoor
/- Proved: the program's sum of a cipher that was read and of rows that are lifted, with noughts. -/
namespace Go.Proofs.YtakleianimcmdaaGreatDoor
open Go.ChangeShapes Go.WideShapes Go.ChangeAt Go.RowKit
set_option linter.unusedVariables false
set_option linter.unusedSimpArgs false
theorem rw_mk {Nn : Nat} {ps : List Int} {xss : List (List Int)} (h1 : xss.length = ps.length) (h2 : OkX Nn ps xss) : rwB Nn ps xss = true := by
  unfold rwB
  rw [Bool.and_eq_true]
  refine ⟨decide_eq_true h1, ?_⟩
  unfold rwA
  refine decide_eq_true fun k hk _ => ?_
  obtain ⟨e1, e2⟩ := h2 k (by omega)
  unfold polyB
  rw [Bool.and_eq_true]
  refine ⟨decide_eq_true (by rw [e1]), List.all_eq_true.2 fun x hx => ?_⟩
  obtain ⟨i, hi, rfl⟩ := List.getElem_of_mem hx
  have h3 := e2 i (by omega)
  have e3 : (xss.getD k []).getD i 0 = (xss.getD k [])[i] := by
    generalize xss.getD k [] = xs at *
    simp [List.getD, hi]
  rw [e3] at h3
  unfold resB
  rw [Bool.and_eq_true]
  exact ⟨decide_eq_true h3.1, decide_eq_true h3.2⟩
theorem okX_lf {Nn : Nat} {ps ss : List Int} (m : Int → Int) (hl : ss.length = Nn) (hp : ∀ k, k < ps.length → 2 ≤ ps.getD k 0 ∧ ps.getD k 0 ≤ 268435456) : OkX Nn ps (lfL m ps ss) := fun k hk => by
  unfold lfL
  have hz : ((smS ps ss).getD k []).length = Nn := by rw [smS_get _ _ _ hk, smR_len]; exact hl
  rw [pairL_get _ _ _ _ _ hk, pairR_len]
  refine ⟨hz, fun i hi => ?_⟩
  rw [pairR_get _ _ _ _ _ (by omega)]
  have := hp k hk
  unfold mulF
  exact ⟨Int.emod_nonneg _ (by omega), Int.emod_lt_of_pos _ (by omega)⟩
def lfZ (m : Int → Int) (Nn : Nat) (ps ss : List Int) : List (List (List Int)) := [lfL m ps ss, smS ps (List.replicate Nn 0)]
theorem lfZ_rw {Nn : Nat} {ps ss : List Int} (m : Int → Int) (hl : ss.length = Nn) (hp : ∀ k, k < ps.length → 2 ≤ ps.getD k 0 ∧ ps.getD k 0 ≤ 268435456) : ∀ j, j < (lfZ m Nn ps ss).length → rwB Nn ps ((lfZ m Nn ps ss).getD j []) = true := fun j hj => by
  have hj2 : j < 2 := hj
  rcases (show j = 0 ∨ j = 1 by omega) with rfl | rfl
  · exact rw_mk (pairL_len _ _ _ _) (okX_lf m hl hp)
  · exact rw_mk (smS_len _ _) (okX_zero hp)
theorem sum_lf2 (Nn : Nat) (T E : Int) (a3 : Option Addr) (l3 c3 gr : Nat) (b5 : Bool) (a6 : Option Addr) (l6 c6 : Nat) (ps ss : List Int) (Rf : Nat → Int) (mm : Int → Int) (xsss : List (List (List Int))) (gf hf : Nat → Option Addr) (w : World) (hN : 2 ≤ Nn ∧ Nn ≤ 16) (hps : 1 ≤ ps.length ∧ ps.length ≤ 6) (hpb : ∀ k, k < ps.length → 2 ≤ ps.getD k 0 ∧ ps.getD k 0 ≤ 268435456) (hl : ss.length = Nn)
    (hM : xsss.length = 2) (hB : ∀ j, j < xsss.length → rwB Nn ps (xsss.getD j []) = true) (hr : Rgs w gr Nn ps Rf ps.length)
    (hX : ∀ i, i < 2 → RdX Nn ps Rf (xsss.getD i []) w (.slice (gf i) ps.length ps.length)) (hY : ∀ i, i < 2 → RdX Nn ps Rf ((lfZ mm Nn ps ss).getD i []) w (.slice (hf i) ps.length ps.length)) :
    Calls Tryz.prog 67 #[.agg #[.int .i64 Nn, .int .i64 T, .int .i64 E, .slice a3 l3 c3, .slice (some ⟨gr, 0, none⟩) ps.length ps.length, .bool b5, .slice a6 l6 c6], .iface 125 (.agg #[.slice (gf 0) ps.length ps.length, .slice (gf 1) ps.length ps.length]), .iface 125 (.agg #[.slice (hf 0) ps.length ps.length, .slice (hf 1) ps.length ps.length])] w fun e w' => ∃ v', e = .returned v' ∧ Old w w' ∧ Ows (TS 109 1 2 (elP Nn false ps Rf (sumZ ps xsss (lfZ mm Nn ps ss)))) w' w.heap.size w'.heap.size [v'] := by
  have hK := lfZ_rw (Nn := Nn) (ps := ps) (ss := ss) mm hl hpb
  have hM2 : (lfZ mm Nn ps ss).length = 2 := rfl
  have hok : ∀ (m : Nat) (xx : List (List (List Int))), (∀ j, j < m → rwB Nn ps (xx.getD j []) = true) → ∀ j, OkX Nn ps (if j < m then xx.getD j [] else smS ps (List.replicate Nn 0)) := fun m xx hh j => by
    by_cases h : j < m
    · rw [if_pos h]
      exact okX_rw (hh j h)
    · rw [if_neg h]
      exact okX_zero hpb
  exact sum_22 Nn T E a3 l3 c3 (some ⟨gr, 0, none⟩) ps.length ps.length b5 a6 l6 c6 ps Rf (sumZ ps xsss (lfZ mm Nn ps ss)) (fun j => if j < 2 then xsss.getD j [] else smS ps (List.replicate Nn 0)) (fun j => if j < 2 then (lfZ mm Nn ps ss).getD j [] else smS ps (List.replicate Nn 0)) ps.length gf hf w
    (fun j hj W q p hp hc => part_any Nn ps Rf T E a3 l3 c3 gr b5 a6 l6 c6 2 (by omega) (fun i => xsss.getD i []) gf w hX hr hN hps hpb j W q p hp hc)
    (fun j hj W q p hp hc => part_any Nn ps Rf T E a3 l3 c3 gr b5 a6 l6 c6 2 (by omega) (fun i => (lfZ mm Nn ps ss).getD i []) hf w hY hr hN hps hpb j W q p hp hc)
    (fun j hj W q v1 v2 q1 q2 => by
      rw [sumZ_add hB hK j (by rw [hM, hM2]; omega), hM, hM2]
      exact add_part Nn ps Rf _ _ v1 v2 W hN hps hpb (hok 2 xsss (fun j hj => hB j (by rw [hM]; exact hj)) j) (hok 2 (lfZ mm Nn ps ss) (fun j hj => hK j (by rw [hM2]; exact hj)) j) q1 q2)
theorem sum_lf3 (Nn : Nat) (T E : Int) (a3 : Option Addr) (l3 c3 gr : Nat) (b5 : Bool) (a6 : Option Addr) (l6 c6 : Nat) (ps ss : List Int) (Rf : Nat → Int) (mm : Int → Int) (xsss : List (List (List Int))) (gf hf : Nat → Option Addr) (w : World) (hN : 2 ≤ Nn ∧ Nn ≤ 16) (hps : 1 ≤ ps.length ∧ ps.length ≤ 6) (hpb : ∀ k, k < ps.length → 2 ≤ ps.getD k 0 ∧ ps.getD k 0 ≤ 268435456) (hl : ss.length = Nn)
    (hM : xsss.length = 3) (hB : ∀ j, j < xsss.length → rwB Nn ps (xsss.getD j []) = true) (hr : Rgs w gr Nn ps Rf ps.length)
    (hX : ∀ i, i < 3 → RdX Nn ps Rf (xsss.getD i []) w (.slice (gf i) ps.length ps.length)) (hY : ∀ i, i < 2 → RdX Nn ps Rf ((lfZ mm Nn ps ss).getD i []) w (.slice (hf i) ps.length ps.length)) :
    Calls Tryz.prog 67 #[.agg #[.int .i64 Nn, .int .i64 T, .int .i64 E, .slice a3 l3 c3, .slice (some ⟨gr, 0, none⟩) ps.length ps.length, .bool b5, .slice a6 l6 c6], .iface 167 (.agg #[.slice (gf 0) ps.length ps.length, .slice (gf 1) ps.length ps.length, .slice (gf 2) ps.length ps.length]), .iface 125 (.agg #[.slice (hf 0) ps.length ps.length, .slice (hf 1) ps.length ps.length])] w fun e w' => ∃ v', e = .returned v' ∧ Old w w' ∧ Ows (TS 109 1 3 (elP Nn false ps Rf (sumZ ps xsss (lfZ mm Nn ps ss)))) w' w.heap.size w'.heap.size [v'] := by
  have hK := lfZ_rw (Nn := Nn) (ps := ps) (ss := ss) mm hl hpb
  have hM2 : (lfZ mm Nn ps ss).length = 2 := rfl
  have hok : ∀ (m : Nat) (xx : List (List (List Int))), (∀ j, j < m → rwB Nn ps (xx.getD j []) = true) → ∀ j, OkX Nn ps (if j < m then xx.getD j [] else smS ps (List.replicate Nn 0)) := fun m xx hh j => by
    by_cases h : j < m
    · rw [if_pos h]
      exact okX_rw (hh j h)
    · rw [if_neg h]
      exact okX_zero hpb
  exact sum_32 Nn T E a3 l3 c3 (some ⟨gr, 0, none⟩) ps.length ps.length b5 a6 l6 c6 ps Rf (sumZ ps xsss (lfZ mm Nn ps ss)) (fun j => if j < 3 then xsss.getD j [] else smS ps (List.replicate Nn 0)) (fun j => if j < 2 then (lfZ mm Nn ps ss).getD j [] else smS ps (List.replicate Nn 0)) ps.length gf hf w
    (fun j hj W q p hp hc => part_any Nn ps Rf T E a3 l3 c3 gr b5 a6 l6 c6 3 (by omega) (fun i => xsss.getD i []) gf w hX hr hN hps hpb j W q p hp hc)
    (fun j hj W q p hp hc => part_any Nn ps Rf T E a3 l3 c3 gr b5 a6 l6 c6 2 (by omega) (fun i => (lfZ mm Nn ps ss).getD i []) hf w hY hr hN hps hpb j W q p hp hc)
    (fun j hj W q v1 v2 q1 q2 => by
      rw [sumZ_add hB hK j (by rw [hM, hM2]; omega), hM, hM2]
      exact add_part Nn ps Rf _ _ v1 v2 W hN hps hpb (hok 3 xsss (fun j hj => hB j (by rw [hM]; exact hj)) j) (hok 2 (lfZ mm Nn ps ss) (fun j hj => hK j (by rw [hM2]; exact hj)) j) q1 q2)
end Go.Proofs.YtakleianimcmdaaGreatDoor
/- Proved: a Part times the rows of a plain, by rows. -/
namespace Go.Proofs.YtakleianimcmdaaGreatDoor
open Go.ChangeShapes Go.WideShapes Go.ChangeAt Go.RowKit
set_option linter.unusedVariables false
set_option linter.unusedSimpArgs false
open M1
theorem toZ_bk (ys : List Nat) : (toZ ys).map Int.toNat = ys := by
  rw [toZ, List.map_map]
  refine (List.map_congr_left fun x hx => ?_).trans (List.map_id ys)
  simp
end Go.Proofs.YtakleianimcmdaaGreatDoor
/- Proved: the two drawn regions of the model's l9Delta. -/
namespace Go.Proofs.YtakleianimcmdaaGreatDoor
open Go.ChangeShapes Go.WideShapes Go.ChangeAt Go.RowKit
set_option linter.unusedVariables false
set_option linter.unusedSimpArgs false
def slotDa (i : Nat) : Nat := [8, 9, 10, 11, 12, 13, 7, 14, 15, 5, 6].getD i 0
theorem slotDa_lt : ∀ i, i < 11 → slotDa i < 24 := by decide
theorem slotDa_inj : ∀ i, i < 11 → ∀ j, j < 11 → slotDa i = slotDa j → i = j := by decide
theorem slotDa_no : ∀ s, s < 4 → ∀ i, i < 11 → slotDa i ≠ s := by decide
def qDa (N T E : Int) (a0 : Option Addr) (l0 c0 bx lq lt ld : Nat) (qs ts ds : List Int) (i : Nat) (W : World) (x : Value) : Prop :=
  match i with
  | 0 => x = .agg #[.int .i64 N, .int .i64 T, .int .i64 E, .slice a0 l0 c0]
  | 1 => ∃ a c, x = .slice a lq c ∧ Row W (.slice a lq c) qs
  | 2 => x = .pointer (some ⟨bx, 1, none⟩)
  | 3 => x = .int .i64 T
  | 4 => ∃ a c, x = .slice a lt c ∧ Row W (.slice a lt c) ts
  | 5 => ∃ a1 c1 a2 l2 c2, x = .tuple #[.slice a1 ld c1, .slice a2 l2 c2] ∧ Row W (.slice a1 ld c1) ds
  | 6 => ∃ a1 c1 a2 l2 c2, x = .tuple #[.slice a1 ld c1, .slice a2 l2 c2] ∧ Row W (.slice a1 ld c1) ds
  | 7 => ∃ a c, x = .slice a ld c ∧ Row W (.slice a ld c) ds
  | 8 => ∃ a l c, x = .slice a l c
  | 9 => ∃ a c, x = .slice a ld c ∧ Row W (.slice a ld c) ds
  | 10 => ∃ a l c, x = .slice a l c
  | _ => True
theorem qDa_old (N T E : Int) (a0 : Option Addr) (l0 c0 bx lq lt ld : Nat) (qs ts ds : List Int) (i : Nat) (W W' : World) (x : Value) (h : qDa N T E a0 l0 c0 bx lq lt ld qs ts ds i W x) (q : Old W W') : qDa N T E a0 l0 c0 bx lq lt ld qs ts ds i W' x := by
  unfold qDa at h ⊢
  split at h
  case h_2 =>
    obtain ⟨a, c, e, o⟩ := h
    exact ⟨a, c, e, o.old q⟩
  case h_5 =>
    obtain ⟨a, c, e, o⟩ := h
    exact ⟨a, c, e, o.old q⟩
  case h_6 =>
    obtain ⟨a1, c1, a2, l2, c2, e, o⟩ := h
    exact ⟨a1, c1, a2, l2, c2, e, o.old q⟩
  case h_7 =>
    obtain ⟨a1, c1, a2, l2, c2, e, o⟩ := h
    exact ⟨a1, c1, a2, l2, c2, e, o.old q⟩
  case h_8 =>
    obtain ⟨a, c, e, o⟩ := h
    exact ⟨a, c, e, o.old q⟩
  case h_10 =>
    obtain ⟨a, c, e, o⟩ := h
    exact ⟨a, c, e, o.old q⟩
  all_goals first | exact h | trivial
set_option maxRecDepth 100000 in
set_option maxHeartbeats 8000000 in
theorem reg_Da (w0 : World) (N T E : Int) (a0 : Option Addr) (l0 c0 bx lq lt ld : Nat) (qs ts ds : List Int) (bX : w0.heap[bx]? = some (.cells #[.int .i64 N, .int .i64 T, .int .i64 E, .slice a0 l0 c0] 28 (0, 0)))
    (KQ : ∀ W, Old w0 W → Calls Tryz.prog 89 #[.agg #[.int .i64 N, .int .i64 T, .int .i64 E, .slice a0 l0 c0]] W fun e w' => ∃ v, e = .returned v ∧ Old W w' ∧ ∃ a c, v = .slice a lq c ∧ Row w' (.slice a lq c) qs)
    (KO : ∀ W, Old w0 W → Calls Tryz.prog 91 #[.int .i64 T] W fun e w' => ∃ v, e = .returned v ∧ Old W w' ∧ ∃ a c, v = .slice a lt c ∧ Row w' (.slice a lt c) ts)
    (KD : ∀ W a c a' c', Old w0 W → Row W (.slice a lq c) qs → Row W (.slice a' lt c') ts → Calls Tryz.prog 93 #[.slice a lq c, .slice a' lt c'] W fun e w' => ∃ v, e = .returned v ∧ Old W w' ∧ ∃ a1 c1 a2 l2 c2, v = .tuple #[.slice a1 ld c1, .slice a2 l2 c2] ∧ Row w' (.slice a1 ld c1) ds)
    (Q : Exit → Act → World → Prop) (b0 : Act) (hsz : b0.tmps.size = 24) (ha2 : b0.eval (.tmp 2) = .pointer (some ⟨bx, 0, none⟩))
    (HK : Hid (∀ (us : Nat → Value) W a c, Old w0 W → us 9 = .slice a ld c → Row W (.slice a ld c) ds → Q .normal (putAll b0 ((List.range 11).map fun i => (slotDa i, us i))) W)) :
    Code.wp Tryz.prog ((Tryz.f78.body.bind (regionAtmul 1)).getD .skip) Q b0 w0 := by
  conv => arg 2; whnf
  have un := slotDa_no
  have px : ∀ W, Old w0 W → W.heap[bx]? = some (.cells #[.int .i64 N, .int .i64 T, .int .i64 E, .slice a0 l0 c0] 28 (0, 0)) := fun W g => (g.block bx (lt_of_some bX)).trans bX
  have pT : ∀ W, Old w0 W → W.cell? ⟨bx, 1, none⟩ = some (.int .i64 T) := fun W g => cell_of_row W bx 1 _ _ (0, 0) (px W g)
  refine wp_region_old (by kernel_rfl) (by kernel_rfl) (by kernel_rfl) slotDa (fun i hi => by rw [hsz]; exact slotDa_lt i hi) (fun i j hi hj => slotDa_inj i hi j hj) (qDa N T E a0 l0 c0 bx lq lt ld qs ts ds) (qDa_old N T E a0 l0 c0 bx lq lt ld qs ts ds) ?_ ?_
  · refine ⟨?_, ?_, ?_, ?_, ?_, ?_, ?_, ?_, ?_, ?_, ?_, trivial⟩
    · intro a W g hF hd
      refine op_load (k := bx) ((hF.same 2 (un 2 (by decide))).trans ha2) (px W g) Tryz.underlying28 rfl (by kernel_rfl) ?_
      exact ⟨_, rfl, Old.refl _, rfl⟩
    · intro a W g hF hd
      have h0 : a.eval (.tmp 8) = .agg #[.int .i64 N, .int .i64 T, .int .i64 E, .slice a0 l0 c0] := hd ⟨0, .data⟩ (by simp) rfl
      refine op_call_ret Tryz.call89 (vs := #[.agg #[.int .i64 N, .int .i64 T, .int .i64 E, .slice a0 l0 c0]]) (by simp [h0]) (KQ W g) ?_
      rintro x w' ⟨g', r⟩
      exact ⟨_, rfl, g', r⟩
    · intro a W g hF hd
      have g2 := (hF.same 2 (un 2 (by decide))).trans ha2
      obtain ⟨ρ, hρ⟩ : ∃ ρ, a.eval = ρ := ⟨_, rfl⟩
      rw [hρ] at g2
      refine op_val ρ hρ (.pointer (some ⟨bx, 1, none⟩)) ?_ ⟨_, rfl, Old.refl _, rfl⟩
      clear g hF hd hρ ha2 HK un KQ KO KD px bX pT
      go_simp
    · intro a W g hF hd
      have h2 : a.eval (.tmp 10) = .pointer (some ⟨bx, 1, none⟩) := hd ⟨2, .data⟩ (by simp) rfl
      have kT := pT W g
      obtain ⟨ρ, hρ⟩ : ∃ ρ, a.eval = ρ := ⟨_, rfl⟩
      rw [hρ] at h2
      refine op_val ρ hρ (.int .i64 T) ?_ ⟨_, rfl, Old.refl _, rfl⟩
      clear g hF hd hρ ha2 HK un KQ KO KD px bX pT
      go_simp
    · intro a W g hF hd
      have h3 : a.eval (.tmp 11) = .int .i64 T := hd ⟨3, .data⟩ (by simp) rfl
      refine op_call_ret Tryz.call91 (vs := #[.int .i64 T]) (by simp [h3]) (KO W g) ?_
      rintro x w' ⟨g', r⟩
      exact ⟨_, rfl, g', r⟩
    · intro a W g hF hd
      obtain ⟨a1, c1, h1, o1⟩ : ∃ a' c, a.eval (.tmp 9) = .slice a' lq c ∧ Row W (.slice a' lq c) qs := hd ⟨1, .data⟩ (by simp) rfl
      obtain ⟨a4, c4, h4, o4⟩ : ∃ a' c, a.eval (.tmp 12) = .slice a' lt c ∧ Row W (.slice a' lt c) ts := hd ⟨4, .data⟩ (by simp) rfl
      refine op_call_ret Tryz.call93 (vs := #[.slice a1 lq c1, .slice a4 lt c4]) (by simp [h1, h4]) (KD W a1 c1 a4 c4 g o1 o4) ?_
      rintro x w' ⟨g', r⟩
      exact ⟨_, rfl, g', r⟩
    · intro a W g hF hd
      refine op_move ?_
      exact ⟨_, rfl, Old.refl _, hd ⟨5, .data⟩ (by simp) rfl⟩
    · intro a W g hF hd
      obtain ⟨a1, c1, a2, l2, c2, h6, o6⟩ : ∃ a1 c1 a2 l2 c2, a.eval (.tmp 7) = .tuple #[.slice a1 ld c1, .slice a2 l2 c2] ∧ Row W (.slice a1 ld c1) ds := hd ⟨6, .data⟩ (by simp) rfl
      exact op_extract h6 rfl ⟨_, rfl, Old.refl _, ⟨a1, c1, rfl, o6⟩⟩
    · intro a W g hF hd
      obtain ⟨a1, c1, a2, l2, c2, h6, o6⟩ : ∃ a1 c1 a2 l2 c2, a.eval (.tmp 7) = .tuple #[.slice a1 ld c1, .slice a2 l2 c2] ∧ Row W (.slice a1 ld c1) ds := hd ⟨6, .data⟩ (by simp) rfl
      exact op_extract h6 rfl ⟨_, rfl, Old.refl _, ⟨a2, l2, c2, rfl⟩⟩
    · intro a W g hF hd
      refine op_assign ?_
      exact ⟨_, rfl, Old.refl _, hd ⟨7, .data⟩ (by simp) rfl⟩
    · intro a W g hF hd
      refine op_assign ?_
      exact ⟨_, rfl, Old.refl _, hd ⟨8, .data⟩ (by simp) rfl⟩
  · intro a W g hF hq
    obtain ⟨da, dc, h9, o9⟩ : ∃ a' c, a.eval (.tmp 5) = .slice a' ld c ∧ Row W (.slice a' ld c) ds := hq 9 (by decide)
    have hp := fram_put (show Fram 11 slotDa b0 a from hF) (fun i j hi hj => slotDa_inj i hi j hj)
    have hk := HK.out (fun i => a.eval (.tmp (slotDa i))) W da dc g h9 o9
    rw [← hp] at hk
    exact hk
def slotDb (i : Nat) : Nat := [16, 17, 18, 19, 20, 21, 22, 23, 4].getD i 0
theorem slotDb_lt : ∀ i, i < 9 → slotDb i < 24 := by decide
theorem slotDb_inj : ∀ i, i < 9 → ∀ j, j < 9 → slotDb i = slotDb j → i = j := by decide
theorem slotDb_no : ∀ s, s < 4 → ∀ i, i < 9 → slotDb i ≠ s := by decide
def qDb (N T E : Int) (a0 : Option Addr) (l0 c0 : Nat) (mv : Value) (da : Option Addr) (ld dc : Nat) (PM PO : World → Value → Prop) (i : Nat) (W : World) (x : Value) : Prop :=
  match i with
  | 0 => x = .agg #[.int .i64 N, .int .i64 T, .int .i64 E, .slice a0 l0 c0]
  | 1 => x = .agg #[.int .i64 N, .slice a0 l0 c0]
  | 2 => x = .agg #[.int .i64 N, .int .i64 T, .int .i64 E, .slice a0 l0 c0]
  | 3 => x = mv
  | 4 => PM W x
  | 5 => x = .slice da ld dc
  | 6 => x = .agg #[.bool false, .slice da ld dc]
  | 7 => PO W x
  | 8 => PO W x
  | _ => True
theorem qDb_old (N T E : Int) (a0 : Option Addr) (l0 c0 : Nat) (mv : Value) (da : Option Addr) (ld dc : Nat) (PM PO : World → Value → Prop) (hM : ∀ W W' v, PM W v → Old W W' → PM W' v) (hO : ∀ W W' v, PO W v → Old W W' → PO W' v) (i : Nat) (W W' : World) (x : Value) (h : qDb N T E a0 l0 c0 mv da ld dc PM PO i W x) (q : Old W W') : qDb N T E a0 l0 c0 mv da ld dc PM PO i W' x := by
  unfold qDb at h ⊢
  split at h
  case h_5 => exact hM _ _ _ h q
  case h_8 => exact hO _ _ _ h q
  case h_9 => exact hO _ _ _ h q
  all_goals first | exact h | trivial
theorem slotDb_no5 : ∀ i, i < 9 → slotDb i ≠ 5 := by decide
set_option maxRecDepth 100000 in
set_option maxHeartbeats 8000000 in
theorem reg_Db (w0 : World) (bx : Nat) (N T E : Int) (a0 : Option Addr) (l0 c0 : Nat) (mv : Value) (da : Option Addr) (ld dc : Nat) (PM PO : World → Value → Prop) (hM : ∀ W W' v, PM W v → Old W W' → PM W' v) (hO : ∀ W W' v, PO W v → Old W W' → PO W' v) (bX : w0.heap[bx]? = some (.cells #[.int .i64 N, .int .i64 T, .int .i64 E, .slice a0 l0 c0] 28 (0, 0)))
    (KP : ∀ W, Old w0 W → Calls Tryz.prog 63 #[.agg #[.int .i64 N, .int .i64 T, .int .i64 E, .slice a0 l0 c0]] W fun e w' => ∃ v, e = .returned v ∧ Old W w' ∧ v = .agg #[.int .i64 N, .slice a0 l0 c0])
    (KM : ∀ W, Old w0 W → Calls Tryz.prog 82 #[.agg #[.int .i64 N, .int .i64 T, .int .i64 E, .slice a0 l0 c0], mv] W fun e w' => ∃ v, e = .returned v ∧ Old W w' ∧ PM w' v)
    (KS : ∀ W u, Old w0 W → PM W u → Calls Tryz.prog 136 #[.agg #[.int .i64 N, .slice a0 l0 c0], u, .agg #[.bool false, .slice da ld dc]] W fun e w' => ∃ v, e = .returned v ∧ Old W w' ∧ PO w' v)
    (Q : Exit → Act → World → Prop) (b0 : Act) (hsz : b0.tmps.size = 24) (ha2 : b0.eval (.tmp 2) = .pointer (some ⟨bx, 0, none⟩)) (ha1 : b0.eval (.tmp 1) = mv) (ha5 : b0.eval (.tmp 5) = .slice da ld dc)
    (HK : Hid (∀ (us : Nat → Value) W, Old w0 W → PO W (us 8) → Q .normal (putAll b0 ((List.range 9).map fun i => (slotDb i, us i))) W)) :
    Code.wp Tryz.prog ((Tryz.f78.body.bind (regionAtmul 2)).getD .skip) Q b0 w0 := by
  conv => arg 2; whnf
  have un := slotDb_no
  have px : ∀ W, Old w0 W → W.heap[bx]? = some (.cells #[.int .i64 N, .int .i64 T, .int .i64 E, .slice a0 l0 c0] 28 (0, 0)) := fun W g => (g.block bx (lt_of_some bX)).trans bX
  refine wp_region_old (by kernel_rfl) (by kernel_rfl) (by kernel_rfl) slotDb (fun i hi => by rw [hsz]; exact slotDb_lt i hi) (fun i j hi hj => slotDb_inj i hi j hj) (qDb N T E a0 l0 c0 mv da ld dc PM PO) (qDb_old N T E a0 l0 c0 mv da ld dc PM PO hM hO) ?_ ?_
  · refine ⟨?_, ?_, ?_, ?_, ?_, ?_, ?_, ?_, ?_, trivial⟩
    · intro a W g hF hd
      refine op_load (k := bx) ((hF.same 2 (un 2 (by decide))).trans ha2) (px W g) Tryz.underlying28 rfl (by kernel_rfl) ?_
      exact ⟨_, rfl, Old.refl _, rfl⟩
    · intro a W g hF hd
      have h0 : a.eval (.tmp 16) = .agg #[.int .i64 N, .int .i64 T, .int .i64 E, .slice a0 l0 c0] := hd ⟨0, .data⟩ (by simp) rfl
      refine op_call_ret Tryz.call63 (vs := #[.agg #[.int .i64 N, .int .i64 T, .int .i64 E, .slice a0 l0 c0]]) (by simp [h0]) (KP W g) ?_
      rintro x w' ⟨g', r⟩
      exact ⟨_, rfl, g', r⟩
    · intro a W g hF hd
      refine op_load (k := bx) ((hF.same 2 (un 2 (by decide))).trans ha2) (px W g) Tryz.underlying28 rfl (by kernel_rfl) ?_
      exact ⟨_, rfl, Old.refl _, rfl⟩
    · intro a W g hF hd
      refine op_move ?_
      exact ⟨_, rfl, Old.refl _, (hF.same 1 (un 1 (by decide))).trans ha1⟩
    · intro a W g hF hd
      have h2 : a.eval (.tmp 18) = .agg #[.int .i64 N, .int .i64 T, .int .i64 E, .slice a0 l0 c0] := hd ⟨2, .data⟩ (by simp) rfl
      have h3 : a.eval (.tmp 19) = mv := hd ⟨3, .data⟩ (by simp) rfl
      refine op_call_ret Tryz.call82 (vs := #[.agg #[.int .i64 N, .int .i64 T, .int .i64 E, .slice a0 l0 c0], mv]) (by simp [h2, h3]) (KM W g) ?_
      rintro x w' ⟨g', r⟩
      exact ⟨_, rfl, g', r⟩
    · intro a W g hF hd
      refine op_move ?_
      exact ⟨_, rfl, Old.refl _, (hF.same 5 slotDb_no5).trans ha5⟩
    · intro a W g hF hd
      have h5 : a.eval (.tmp 21) = .slice da ld dc := hd ⟨5, .data⟩ (by simp) rfl
      have hc : a.eval (.const (.bool false)) = .bool false := rfl
      obtain ⟨ρ, hρ⟩ : ∃ ρ, a.eval = ρ := ⟨_, rfl⟩
      rw [hρ] at h5 hc
      refine op_val ρ hρ (.agg #[.bool false, .slice da ld dc]) ?_ ⟨_, rfl, Old.refl _, rfl⟩
      clear g hF hd hρ ha2 HK un KP KM KS px bX ha1 ha5
      go_simp
    · intro a W g hF hd
      have h1 : a.eval (.tmp 17) = .agg #[.int .i64 N, .slice a0 l0 c0] := hd ⟨1, .data⟩ (by simp) rfl
      have h4 : PM W (a.eval (.tmp 20)) := hd ⟨4, .data⟩ (by simp) rfl
      have h6 : a.eval (.tmp 22) = .agg #[.bool false, .slice da ld dc] := hd ⟨6, .data⟩ (by simp) rfl
      refine op_call_ret Tryz.call136 (vs := #[.agg #[.int .i64 N, .slice a0 l0 c0], a.eval (.tmp 20), .agg #[.bool false, .slice da ld dc]]) (by simp [h1, h6]) (KS W _ g h4) ?_
      rintro x w' ⟨g', r⟩
      exact ⟨_, rfl, g', r⟩
    · intro a W g hF hd
      refine op_assign ?_
      exact ⟨_, rfl, Old.refl _, hd ⟨7, .data⟩ (by simp) rfl⟩
  · intro a W g hF hq
    have hp := fram_put (show Fram 9 slotDb b0 a from hF) (fun i j hi hj => slotDb_inj i hi j hj)
    have hk := HK.out (fun i => a.eval (.tmp (slotDb i))) W g (hq 8 (by decide))
    rw [← hp] at hk
    exact hk
end Go.Proofs.YtakleianimcmdaaGreatDoor
