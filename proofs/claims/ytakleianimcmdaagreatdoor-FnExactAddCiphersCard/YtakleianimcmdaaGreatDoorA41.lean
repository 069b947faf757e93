/- Proved: several texts in one: what each proves is said ahead of it. -/
import Derived.Test.YtakleianimcmdaaGreatDoorA40
import Derived.Test.YtakleianimcmdaaGreatDoorA26
import Derived.Test.YtakleianimcmdaaGreatDoorLawAddCiphers
import Derived.Test.YtakleianimcmdaaGreatDoorA13
import Derived.Test.YtakleianimcmdaaGreatDoorA43
import Derived.Test.YtakleianimcmdaaGreatDoorKCb
/- Proved: the contract of the program's AddCiphers. -/
namespace Go.Proofs.YtakleianimcmdaaGreatDoor
open Go.ChangeShapes Go.WideShapes Go.ChangeAt Go.RowKit
set_option linter.unusedVariables false
set_option linter.unusedSimpArgs false
theorem RdX_of {base Nn : Nat} {ps : List Int} {Rf : Nat → Int} {uf : Nat → Nat → Option Addr} {cf : Nat → Nat} {j : Nat} {W : World} {gp : Option Addr} {v2 : Value} {xss : List (List Int)} (hN : 2 ≤ Nn ∧ Nn ≤ 16) (hph : PhG base Nn ps Rf uf j W gp) (hra : RowsAt W v2 ps xss (uf j) cf) (hrw : rwB Nn ps xss = true) : RdX Nn ps Rf xss W (.slice gp ps.length ps.length) := by
  obtain ⟨gn, rfl, _, hrr⟩ := hph
  obtain ⟨bb, cc, _, hbb, hrow⟩ := hra
  obtain ⟨hxl, hpoly⟩ := rw_parts hrw
  refine ⟨_, hrr.rd, fun k hk => ?_⟩
  obtain ⟨q1, q2⟩ := poly_parts (hpoly k hk)
  have hlx : (xss.getD k []).length = Nn := by omega
  obtain ⟨_, hcf, r2⟩ := hrow k (by omega)
  rw [hlx] at r2
  rw [show ((Nn : Int).toNat) = Nn by omega, hlx]
  exact ⟨r2.recap (by intro h; rw [h] at hlx; simp at hlx; omega), _, _, rfl⟩
theorem part_any (Nn : Nat) (ps : List Int) (Rf : Nat → Int) (T E : Int) (a3 : Option Addr) (l3 c3 : Nat) (gr : Nat) (b5 : Bool) (a6 : Option Addr) (l6 c6 : Nat) (m : Nat) (hm : m ≤ 3) (X : Nat → List (List Int)) (gf : Nat → Option Addr) (w0 : World) (hX : ∀ i, i < m → RdX Nn ps Rf (X i) w0 (.slice (gf i) ps.length ps.length)) (hr : Rgs w0 gr Nn ps Rf ps.length) (hN : 2 ≤ Nn ∧ Nn ≤ 16) (hps : 1 ≤ ps.length ∧ ps.length ≤ 6) (hpb : ∀ k, k < ps.length → 2 ≤ ps.getD k 0 ∧ ps.getD k 0 ≤ 268435456) (j : Nat) (W : World) (g : Old w0 W) (p : Nat) (hp : p < W.heap.size) (hc : ∀ i : Nat, i < m → W.cell? ⟨p, i, none⟩ = some (.slice (gf i) ps.length ps.length)) :
    Calls Tryz.prog 127 #[.agg #[.int .i64 Nn, .int .i64 T, .int .i64 E, .slice a3 l3 c3, .slice (some ⟨gr, 0, none⟩) ps.length ps.length, .bool b5, .slice a6 l6 c6], .slice (some ⟨p, 0, none⟩) m m, .int .i64 j] W fun e w' => ∃ v', e = .returned v' ∧ Old W w' ∧ RdX Nn ps Rf (if j < m then X j else smS ps (List.replicate Nn 0)) w' v' := by
  by_cases h : j < m
  · rw [if_pos h]
    refine (partAt_in Nn T E a3 l3 c3 _ _ _ b5 a6 l6 c6 p m j (gf j) ps.length ps.length W h hm hp (hc j h)).mono fun e w' h' => ?_
    exact ⟨_, h'.1, h'.2, ((hX j h).old g).old h'.2⟩
  · rw [if_neg h]
    exact partAt_out Nn ps Rf T E a3 l3 c3 gr b5 a6 l6 c6 p m j W h hm (hr.old g) hN hps hpb
def sumZ (ps : List Int) (xsss ysss : List (List (List Int))) : List (List (List Int)) := (List.range (max xsss.length ysss.length)).map fun j => if j < xsss.length then (if j < ysss.length then pairL addF ps (xsss.getD j []) (ysss.getD j []) else xsss.getD j []) else ysss.getD j []
theorem sumZ_len (ps : List Int) (xsss ysss : List (List (List Int))) : (sumZ ps xsss ysss).length = max xsss.length ysss.length := by simp [sumZ]
theorem sumZ_get (ps : List Int) (xsss ysss : List (List (List Int))) (j : Nat) (h : j < max xsss.length ysss.length) : (sumZ ps xsss ysss).getD j [] = if j < xsss.length then (if j < ysss.length then pairL addF ps (xsss.getD j []) (ysss.getD j []) else xsss.getD j []) else ysss.getD j [] := by
  unfold sumZ
  rw [List.getD, List.getElem?_map, List.getElem?_range h]
  rfl
theorem sumZ_add {Nn : Nat} {ps : List Int} {xsss ysss : List (List (List Int))} (hx : ∀ j, j < xsss.length → rwB Nn ps (xsss.getD j []) = true) (hy : ∀ j, j < ysss.length → rwB Nn ps (ysss.getD j []) = true) (j : Nat) (h : j < max xsss.length ysss.length) :
    (sumZ ps xsss ysss).getD j [] = pairL addF ps (if j < xsss.length then xsss.getD j [] else smS ps (List.replicate Nn 0)) (if j < ysss.length then ysss.getD j [] else smS ps (List.replicate Nn 0)) := by
  rw [sumZ_get _ _ _ _ h]
  by_cases h1 : j < xsss.length
  · by_cases h2 : j < ysss.length
    · simp only [h1, h2, if_true]
    · simp only [h1, h2, if_true, if_false]
      exact (add_zeroR (rw_parts (hx j h1)).1 (okX_rw (hx j h1))).symm
  · have h2 : j < ysss.length := by omega
    simp only [h1, h2, if_true, if_false]
    exact (add_zeroL (rw_parts (hy j h2)).1 (okX_rw (hy j h2))).symm
theorem sumZ_row {N : Int} {ps : List Int} {xsss ysss : List (List (List Int))} (hN : N ≤ 16) (hps : ps.length ≤ 6) (hC : ciB N ps xsss = true) (hD : ciB N ps ysss = true) : (sumZ ps xsss ysss).length ≤ 3 ∧ ∀ r ∈ sumZ ps xsss ysss, r.length = ps.length ∧ ∀ q ∈ r, q.length ≤ 16 := by
  obtain ⟨hm, hB⟩ := rd_true hC
  obtain ⟨hm2, hB2⟩ := rd_true hD
  have key : ∀ xss, rwB N ps xss = true → xss.length = ps.length ∧ ∀ q ∈ xss, q.length ≤ 16 := fun xss h => by
    obtain ⟨h1, h2⟩ := rw_parts h
    refine ⟨h1, fun q hq => ?_⟩
    obtain ⟨k, hk, rfl⟩ := List.mem_iff_getElem.mp hq
    have := (poly_parts (h2 k (by omega))).1
    have e : xss.getD k [] = xss[k] := by simp [List.getD, hk]
    rw [e] at this
    omega
  refine ⟨by rw [sumZ_len]; omega, fun r hr => ?_⟩
  unfold sumZ at hr
  rw [List.mem_map] at hr
  obtain ⟨j, hj, rfl⟩ := hr
  rw [List.mem_range] at hj
  by_cases h1 : j < xsss.length
  · by_cases h2 : j < ysss.length
    · simp only [h1, h2, if_true]
      refine ⟨pairL_len _ _ _ _, fun q hq => ?_⟩
      unfold pairL at hq
      rw [List.mem_map] at hq
      obtain ⟨k, hk, rfl⟩ := hq
      rw [List.mem_range] at hk
      rw [pairR_len]
      have := (poly_parts ((rw_parts (hB j h1)).2 k hk)).1
      omega
    · simp only [h1, h2, if_true, if_false]
      exact key _ (hB j h1)
  · simp only [h1, if_false]
    exact key _ (hB2 j (by omega))
set_option maxRecDepth 100000 in
set_option maxHeartbeats 8000000 in
theorem impl_AddCiphers (N T E : Int) (ps : List Int) (xsss ysss : List (List (List Int))) (v u t : Value) (w : World) (lo hi lo2 hi2 : Nat) (hP : PrsW w) (hT : TabW w) (hv : Row w v ps) (hf : Fit v) (hu : Ows (TTT xsss) w lo hi [u]) (ht : Ows (TTT ysss) w lo2 hi2 [t]) (hlp : ps.length ≤ 9223372036854775807) (hl : xsss.length ≤ 1048576) (hr : ∀ r ∈ xsss, r.length ≤ 1048576 ∧ ∀ q ∈ r, q.length ≤ 1048576) (hl2 : ysss.length ≤ 1048576) (hr2 : ∀ r ∈ ysss, r.length ≤ 1048576 ∧ ∀ q ∈ r, q.length ≤ 1048576) (Z : List (List (List Int))) (ok : Bool) (hy : (prB N T E ps && ciB N ps xsss && ciB N ps ysss) = true → Z = sumZ ps xsss ysss ∧ ok = true) (hn : (prB N T E ps && ciB N ps xsss && ciB N ps ysss) = false → Z = [] ∧ ok = false) :
    Calls Tryz.prog 22 #[.agg #[.int .i64 N, .int .i64 T, .int .i64 E, v], .agg #[u], .agg #[t]] w (CiA Z ok w) := by
  have HY : Hid ((prB N T E ps && ciB N ps xsss && ciB N ps ysss) = true → Z = sumZ ps xsss ysss ∧ ok = true) := hy
  have HNN : Hid ((prB N T E ps && ciB N ps xsss && ciB N ps ysss) = false → Z = [] ∧ ok = false) := hn
  clear hy hn
  obtain ⟨Rf, hRf⟩ := Rings_roots N ps
  have K1 := fun W (g : Old w W) => impl_reckonerOf N T E ps Rf v W (hP.old g) (hT.old g) (hv.old g) hf hlp hRf
  obtain ⟨a0, c0, ev⟩ := hv.slice
  obtain ⟨a1, c1, eu⟩ := hu.rowT.slice
  obtain ⟨a2, c2, et⟩ := ht.rowT.slice
  subst ev eu et
  obtain ⟨au1, cu1, uf1, cf1, hpa1⟩ : ∃ au cu uf cf, 0 < xsss.length → ∃ b, a1 = some ⟨b, 0, none⟩ ∧ PaT w b ps xsss au cu uf cf := by
    rcases Nat.eq_zero_or_pos xsss.length with h0 | h0
    · exact ⟨fun _ => none, fun _ => 0, fun _ _ => none, fun _ _ => 0, fun h => by omega⟩
    · obtain ⟨_, B, hT, _⟩ := hu
      obtain ⟨b, cap, au, cu, uf, cf, e, hp⟩ := TTT.at ps hT h0
      simp only [Value.slice.injEq, true_and] at e
      exact ⟨au, cu, uf, cf, fun _ => ⟨b, e.1, hp⟩⟩
  have HPA1 : Hid (0 < xsss.length → ∃ b, a1 = some ⟨b, 0, none⟩ ∧ PaT w b ps xsss au1 cu1 uf1 cf1) := hpa1
  obtain ⟨au2, cu2, uf2, cf2, hpa2⟩ : ∃ au cu uf cf, 0 < ysss.length → ∃ b, a2 = some ⟨b, 0, none⟩ ∧ PaT w b ps ysss au cu uf cf := by
    rcases Nat.eq_zero_or_pos ysss.length with h0 | h0
    · exact ⟨fun _ => none, fun _ => 0, fun _ _ => none, fun _ _ => 0, fun h => by omega⟩
    · obtain ⟨_, B, hT, _⟩ := ht
      obtain ⟨b, cap, au, cu, uf, cf, e, hp⟩ := TTT.at ps hT h0
      simp only [Value.slice.injEq, true_and] at e
      exact ⟨au, cu, uf, cf, fun _ => ⟨b, e.1, hp⟩⟩
  have HPA2 : Hid (0 < ysss.length → ∃ b, a2 = some ⟨b, 0, none⟩ ∧ PaT w b ps ysss au2 cu2 uf2 cf2) := hpa2
  have HR1 : Hid (∀ r ∈ xsss, r.length ≤ 1048576 ∧ ∀ q ∈ r, q.length ≤ 1048576) := hr
  have HR2 : Hid (∀ r ∈ ysss, r.length ≤ 1048576 ∧ ∀ q ∈ r, q.length ≤ 1048576) := hr2
  have HA : Hid (Old w ((((w.alloc (.cells #[.int .i64 N, .int .i64 T, .int .i64 E, .slice a0 ps.length c0] 28)).alloc (.cells #[.slice a1 xsss.length c1] 42)).alloc (.cells #[.slice a2 ysss.length c2] 42)).alloc (.cells #[.slice none 0 0] 42))) := ((((Old.refl w).alloc _).alloc _).alloc _).alloc _
  have BA : Hid (Bk ((((w.alloc (.cells #[.int .i64 N, .int .i64 T, .int .i64 E, .slice a0 ps.length c0] 28)).alloc (.cells #[.slice a1 xsss.length c1] 42)).alloc (.cells #[.slice a2 ysss.length c2] 42)).alloc (.cells #[.slice none 0 0] 42)) (w.heap.size + 1) #[.slice a1 xsss.length c1] 42) := ((Bk.new' _ _ _ (by simp)).alloc _).alloc _
  have BB : Hid (Bk ((((w.alloc (.cells #[.int .i64 N, .int .i64 T, .int .i64 E, .slice a0 ps.length c0] 28)).alloc (.cells #[.slice a1 xsss.length c1] 42)).alloc (.cells #[.slice a2 ysss.length c2] 42)).alloc (.cells #[.slice none 0 0] 42)) (w.heap.size + 1 + 1) #[.slice a2 ysss.length c2] 42) := (Bk.new' _ _ _ (by simp)).alloc _
  have BR : Hid (Bk ((((w.alloc (.cells #[.int .i64 N, .int .i64 T, .int .i64 E, .slice a0 ps.length c0] 28)).alloc (.cells #[.slice a1 xsss.length c1] 42)).alloc (.cells #[.slice a2 ysss.length c2] 42)).alloc (.cells #[.slice none 0 0] 42)) (w.heap.size + 1 + 1 + 1) #[.slice none 0 0] 42) := Bk.new' _ _ _ (by simp)
  clear hv hf hu ht hP hT hRf hr hr2 hpa1 hpa2
  go_enter Tryz.func22, Tryz.ntmps22
  go_wp2_with fail
  refine (K1 _ HA.out).mono ?_
  rintro e w1 ⟨g1, h⟩
  have HG1 : Hid (Old w w1) := Old.trans HA.out g1
  have BA1 : Hid (Bk w1 (w.heap.size + 1) #[.slice a1 xsss.length c1] 42) := BA.out.old g1
  have BB1 : Hid (Bk w1 (w.heap.size + 1 + 1) #[.slice a2 ysss.length c2] 42) := BB.out.old g1
  have R1 : Hid (Bk w1 (w.heap.size + 1 + 1 + 1) #[.slice none 0 0] 42) := BR.out.old g1
  clear g1 K1 BA BB BR HA
  rcases h with ⟨hB, rfl⟩ | ⟨hB, g, a, l, c, hg, rfl, hrg, _⟩
  · have HB : Hid (Z = [] ∧ ok = false) := HNN.out (by rw [hB]; rfl)
    have HG2 : Hid (Old w (w1.alloc (.cells rk0 73))) := HG1.out.alloc _
    have z0 := (BA1.out.alloc (.cells rk0 73)).c (i := 0) rfl
    have BB2 : Hid (Bk (w1.alloc (.cells rk0 73)) (w.heap.size + 1 + 1) #[.slice a2 ysss.length c2] 42) := BB1.out.alloc _
    have R2 : Hid (Bk (w1.alloc (.cells rk0 73)) (w.heap.size + 1 + 1 + 1) #[.slice none 0 0] 42) := R1.out.alloc _
    have BX2 : Hid (Bk (w1.alloc (.cells rk0 73)) w1.heap.size rk0 73) := Bk.new' w1 _ _ rfl
    have cA := fun W (q : Old w W) => read_nil 0 0 0 none 0 0 false none 0 0 a1 c1 W ps xsss au1 cu1 uf1 cf1 hl (fun h0 => by
      obtain ⟨b, e, hp⟩ := HPA1.out h0
      exact ⟨b, e, hp.old q⟩)
    have cB := fun W (q : Old w W) => read_nil 0 0 0 none 0 0 false none 0 0 a2 c2 W ps ysss au2 cu2 uf2 cf2 hl2 (fun h0 => by
      obtain ⟨b, e, hp⟩ := HPA2.out h0
      exact ⟨b, e, hp.old q⟩)
    clear hB
    go_wp2_with fail
    refine (cA _ HG2.out).mono ?_
    intro e w2 h
    obtain ⟨g2, x, rfl⟩ := h.any
    have HG3 : Hid (Old w w2) := Old.trans HG2.out g2
    have R3 : Hid (Bk w2 (w.heap.size + 1 + 1 + 1) #[.slice none 0 0] 42) := R2.out.old g2
    have BB3 : Hid (Bk w2 (w.heap.size + 1 + 1) #[.slice a2 ysss.length c2] 42) := BB2.out.old g2
    have BX3 : Hid (Bk w2 w1.heap.size rk0 73) := BX2.out.old g2
    have x0 := BX3.out.c (i := 0) rfl
    have x1 := BX3.out.c (i := 1) rfl
    have x2 := BX3.out.c (i := 2) rfl
    have x3 := BX3.out.c (i := 3) rfl
    have x4 := BX3.out.c (i := 4) rfl
    have x5 := BX3.out.c (i := 5) rfl
    have x6 := BX3.out.c (i := 6) rfl
    have x7 := BB3.out.c (i := 0) rfl
    clear g2 h cA z0
    go_wp2_with fail
    refine (cB _ HG3.out).mono ?_
    intro e w3 h
    obtain ⟨g2, x', rfl⟩ := h.any
    have HG4 : Hid (Old w w3) := Old.trans HG3.out g2
    have R4 : Hid (Bk w3 (w.heap.size + 1 + 1 + 1) #[.slice none 0 0] 42) := R3.out.old g2
    have y0 := R4.out.c (i := 0) rfl
    have f0 : w3.frozen? ⟨w.heap.size + 1 + 1 + 1, 0, none⟩ = false := frozen_of_row _ _ _ _ _ R4.out
    clear g2 h cB x0 x1 x2 x3 x4 x5 x6 x7
    go_wp2_with fail
    have q0 := (ci_put R4.out (.slice none 0 0)).c (i := 0) rfl
    refine bodyPost_ret (v := .tuple #[.agg #[.slice none 0 0], .bool false]) (by simp [results, Tryz.results22, go_sem, q0]) rfl ?_
    rw [HB.out.1, HB.out.2]
    exact ⟨_, rfl, HG4.out.own (p := ⟨w.heap.size + 1 + 1 + 1, 0, none⟩) (by simp; omega) _, XC.nil2 (Nat.le_refl _)⟩
  · have hsp := prB_sp hB
    have HG2 : Hid (Old w (w1.alloc (.cells #[.int .i64 N, .int .i64 T, .int .i64 E, .slice a0 ps.length c0, .slice (some ⟨g, 0, none⟩) ps.length ps.length, .bool false, .slice a l c] 73))) := HG1.out.alloc _
    have z0 := (BA1.out.alloc (.cells #[.int .i64 N, .int .i64 T, .int .i64 E, .slice a0 ps.length c0, .slice (some ⟨g, 0, none⟩) ps.length ps.length, .bool false, .slice a l c] 73)).c (i := 0) rfl
    have BB2 : Hid (Bk (w1.alloc (.cells #[.int .i64 N, .int .i64 T, .int .i64 E, .slice a0 ps.length c0, .slice (some ⟨g, 0, none⟩) ps.length ps.length, .bool false, .slice a l c] 73)) (w.heap.size + 1 + 1) #[.slice a2 ysss.length c2] 42) := BB1.out.alloc _
    have R2 : Hid (Bk (w1.alloc (.cells #[.int .i64 N, .int .i64 T, .int .i64 E, .slice a0 ps.length c0, .slice (some ⟨g, 0, none⟩) ps.length ps.length, .bool false, .slice a l c] 73)) (w.heap.size + 1 + 1 + 1) #[.slice none 0 0] 42) := R1.out.alloc _
    have HRG : Hid (Rgs (w1.alloc (.cells #[.int .i64 N, .int .i64 T, .int .i64 E, .slice a0 ps.length c0, .slice (some ⟨g, 0, none⟩) ps.length ps.length, .bool false, .slice a l c] 73)) g N ps Rf ps.length) := hrg.old ((Old.refl w1).alloc _)
    have BX2 : Hid (Bk (w1.alloc (.cells #[.int .i64 N, .int .i64 T, .int .i64 E, .slice a0 ps.length c0, .slice (some ⟨g, 0, none⟩) ps.length ps.length, .bool false, .slice a l c] 73)) w1.heap.size #[.int .i64 N, .int .i64 T, .int .i64 E, .slice a0 ps.length c0, .slice (some ⟨g, 0, none⟩) ps.length ps.length, .bool false, .slice a l c] 73) := Bk.new' w1 _ _ rfl
    have hs1 : w.heap.size + 4 ≤ w1.heap.size := by have := R1.out.lt; omega
    have cA := fun W (q : Old w W) (hr : Rgs W g N ps Rf ps.length) => read_good N T E a0 ps.length c0 g false a l c a1 c1 W ps Rf xsss au1 cu1 uf1 cf1 hl HR1.out (fun h0 => by
      obtain ⟨b, e, hp⟩ := HPA1.out h0
      exact ⟨b, e, hp.old q⟩) hr hsp
    have cB := fun W (q : Old w W) (hr : Rgs W g N ps Rf ps.length) => read_good N T E a0 ps.length c0 g false a l c a2 c2 W ps Rf ysss au2 cu2 uf2 cf2 hl2 HR2.out (fun h0 => by
      obtain ⟨b, e, hp⟩ := HPA2.out h0
      exact ⟨b, e, hp.old q⟩) hr hsp
    have HBB : Hid (prB N T E ps = true) := hB
    have HSP : Hid (spB N ps = true) := hsp
    clear hB hrg hg hsp
    go_wp2_with fail
    refine (cA _ HG2.out HRG.out).mono ?_
    rintro e w2 ⟨g2, h⟩
    have HG3 : Hid (Old w w2) := Old.trans HG2.out g2
    have R3 : Hid (Bk w2 (w.heap.size + 1 + 1 + 1) #[.slice none 0 0] 42) := R2.out.old g2
    have BB3 : Hid (Bk w2 (w.heap.size + 1 + 1) #[.slice a2 ysss.length c2] 42) := BB2.out.old g2
    have BX3 : Hid (Bk w2 w1.heap.size #[.int .i64 N, .int .i64 T, .int .i64 E, .slice a0 ps.length c0, .slice (some ⟨g, 0, none⟩) ps.length ps.length, .bool false, .slice a l c] 73) := BX2.out.old g2
    have HRG3 : Hid (Rgs w2 g N ps Rf ps.length) := HRG.out.old g2
    have x0 := BX3.out.c (i := 0) rfl
    have x1 := BX3.out.c (i := 1) rfl
    have x2 := BX3.out.c (i := 2) rfl
    have x3 := BX3.out.c (i := 3) rfl
    have x4 := BX3.out.c (i := 4) rfl
    have x5 := BX3.out.c (i := 5) rfl
    have x6 := BX3.out.c (i := 6) rfl
    have x7 := BB3.out.c (i := 0) rfl
    clear g2 cA HRG R2 HG2 R1 HG1 z0 BA1 BB1 BB2 BX2
    rcases h with ⟨hC, rfl⟩ | ⟨hC, hm, g0, g1, rfl, p0, p1⟩ | ⟨hC, hm, g0, g1, g2, rfl, p0, p1, p2⟩
    · have HCX : Hid (ciB N ps xsss = false) := hC
      clear hC
      go_wp2_with fail
      refine (cB _ HG3.out HRG3.out).mono ?_
      rintro e w3 ⟨g9, h⟩
      have HG4 : Hid (Old w w3) := Old.trans HG3.out g9
      have HQ3 : Hid (Old w2 w3) := g9
      have R4 : Hid (Bk w3 (w.heap.size + 1 + 1 + 1) #[.slice none 0 0] 42) := R3.out.old g9
      have BX4 : Hid (Bk w3 w1.heap.size #[.int .i64 N, .int .i64 T, .int .i64 E, .slice a0 ps.length c0, .slice (some ⟨g, 0, none⟩) ps.length ps.length, .bool false, .slice a l c] 73) := BX3.out.old g9
      have HRG4 : Hid (Rgs w3 g N ps Rf ps.length) := HRG3.out.old g9
      have y0 := R4.out.c (i := 0) rfl
      have f0 : w3.frozen? ⟨w.heap.size + 1 + 1 + 1, 0, none⟩ = false := frozen_of_row _ _ _ _ _ R4.out
      clear g9 cB x0 x1 x2 x3 x4 x5 x6 x7
      have HB : Hid (Z = [] ∧ ok = false) := HNN.out (by rw [HBB.out, HCX.out]; rfl)
      rcases h with ⟨hD, rfl⟩ | ⟨hD, hmb, b0, b1, rfl, _, _⟩ | ⟨hD, hmb, b0, b1, b2, rfl, _, _, _⟩
      all_goals
        clear hD
        try clear hmb
        go_wp2_with fail
        have q0 := (ci_put R4.out (.slice none 0 0)).c (i := 0) rfl
        refine bodyPost_ret (v := .tuple #[.agg #[.slice none 0 0], .bool false]) (by simp [results, Tryz.results22, go_sem, q0]) rfl ?_
        rw [HB.out.1, HB.out.2]
        exact ⟨_, rfl, HG4.out.own (p := ⟨w.heap.size + 1 + 1 + 1, 0, none⟩) (by simp; omega) _, XC.nil2 (Nat.le_refl _)⟩
    · have HCX : Hid (ciB N ps xsss = true) := hC
      have HM : Hid (xsss.length = 2) := hm
      have HPH : Hid (∀ j, j < 2 → PhG (w1.heap.size + 1) N ps Rf uf1 j w2 ((fun j => if j = 0 then g0 else g1) j)) := fun j hj => by
        rcases (show j = 0 ∨ j = 1 by omega) with rfl | rfl
        · simpa using p0
        · simpa using p1
      have HBASE : Hid (∀ j gp, PhG (w1.alloc (.cells #[.int .i64 N, .int .i64 T, .int .i64 E, .slice a0 ps.length c0, .slice (some ⟨g, 0, none⟩) ps.length ps.length, .bool false, .slice a l c] 73)).heap.size N ps Rf uf1 j w2 gp → True) := fun _ _ _ => trivial
      clear hC hm p0 p1 HBASE
      go_wp2_with fail
      refine (cB _ HG3.out HRG3.out).mono ?_
      rintro e w3 ⟨g9, h⟩
      have HG4 : Hid (Old w w3) := Old.trans HG3.out g9
      have HQ3 : Hid (Old w2 w3) := g9
      have R4 : Hid (Bk w3 (w.heap.size + 1 + 1 + 1) #[.slice none 0 0] 42) := R3.out.old g9
      have BX4 : Hid (Bk w3 w1.heap.size #[.int .i64 N, .int .i64 T, .int .i64 E, .slice a0 ps.length c0, .slice (some ⟨g, 0, none⟩) ps.length ps.length, .bool false, .slice a l c] 73) := BX3.out.old g9
      have HRG4 : Hid (Rgs w3 g N ps Rf ps.length) := HRG3.out.old g9
      have y0 := R4.out.c (i := 0) rfl
      have f0 : w3.frozen? ⟨w.heap.size + 1 + 1 + 1, 0, none⟩ = false := frozen_of_row _ _ _ _ _ R4.out
      clear g9 cB x0 x1 x2 x3 x4 x5 x6 x7
      rcases h with ⟨hD, rfl⟩ | ⟨hD, hmb, b0, b1, rfl, r0, r1⟩ | ⟨hD, hmb, b0, b1, b2, rfl, r0, r1, r2⟩
      · have HB : Hid (Z = [] ∧ ok = false) := HNN.out (by rw [show ciB N ps ysss = false from hD, Bool.and_false])
        clear hD
        go_wp2_with fail
        have q0 := (ci_put R4.out (.slice none 0 0)).c (i := 0) rfl
        refine bodyPost_ret (v := .tuple #[.agg #[.slice none 0 0], .bool false]) (by simp [results, Tryz.results22, go_sem, q0]) rfl ?_
        rw [HB.out.1, HB.out.2]
        exact ⟨_, rfl, HG4.out.own (p := ⟨w.heap.size + 1 + 1 + 1, 0, none⟩) (by simp; omega) _, XC.nil2 (Nat.le_refl _)⟩
      · have HDX : Hid (ciB N ps ysss = true) := hD
        have HM2 : Hid (ysss.length = 2) := hmb
        have HPK : Hid (∀ j, j < 2 → PhG w2.heap.size N ps Rf uf2 j w3 ((fun j => if j = 0 then b0 else b1) j)) := fun j hj => by
          rcases (show j = 0 ∨ j = 1 by omega) with rfl | rfl
          · simpa using r0
          · simpa using r1
        clear hD hmb r0 r1
        obtain ⟨hz4, hbb, _⟩ := sp_ring HSP.out
        obtain ⟨Nn, rfl⟩ : ∃ Nn : Nat, N = (Nn : Int) := ⟨N.toNat, by omega⟩
        have hNn : 2 ≤ Nn ∧ Nn ≤ 16 := by omega
        have hps := (bas_at hbb).1
        have hpb : ∀ k, k < ps.length → 2 ≤ ps.getD k 0 ∧ ps.getD k 0 ≤ 268435456 := fun k hk => pm_bd ((bas_at hbb).2 k hk)
        have HBJ : Hid (∀ j, j < xsss.length → rwB Nn ps (xsss.getD j []) = true) := (rd_true HCX.out).2
        have HBK : Hid (∀ j, j < ysss.length → rwB Nn ps (ysss.getD j []) = true) := (rd_true HDX.out).2
        have HXA : Hid (∀ i, i < 2 → RdX Nn ps Rf (xsss.getD i []) w3 (.slice ((fun j => if j = 0 then g0 else g1) i) ps.length ps.length)) := fun i hi => by
          obtain ⟨b, _, hp⟩ := HPA1.out (by rw [HM.out]; omega)
          have hxl := (rw_parts (HBJ.out i (by rw [HM.out]; exact hi))).1
          have hat := (hp.2 i (by rw [HM.out]; exact hi)).2 (by omega)
          exact RdX_of hNn ((HPH.out i hi).old i _ _ _ HQ3.out) (hat.old HG4.out) (HBJ.out i (by rw [HM.out]; exact hi))
        have HXB : Hid (∀ i, i < 2 → RdX Nn ps Rf (ysss.getD i []) w3 (.slice ((fun j => if j = 0 then b0 else b1) i) ps.length ps.length)) := fun i hi => by
          obtain ⟨b, _, hp⟩ := HPA2.out (by rw [HM2.out]; omega)
          have hxl := (rw_parts (HBK.out i (by rw [HM2.out]; exact hi))).1
          have hat := (hp.2 i (by rw [HM2.out]; exact hi)).2 (by omega)
          exact RdX_of hNn (HPK.out i hi) (hat.old HG4.out) (HBK.out i (by rw [HM2.out]; exact hi))
        have hok : ∀ (m : Nat) (xx : List (List (List Int))), (∀ j, j < m → rwB Nn ps (xx.getD j []) = true) → ∀ j, OkX Nn ps (if j < m then xx.getD j [] else smS ps (List.replicate Nn 0)) := fun m xx hh j => by
          by_cases h : j < m
          · rw [if_pos h]
            exact okX_rw (hh j h)
          · rw [if_neg h]
            exact okX_zero hpb
        have cs := sum_22 Nn T E a0 ps.length c0 (some ⟨g, 0, none⟩) ps.length ps.length false a l c ps Rf (sumZ ps xsss ysss) (fun j => if j < 2 then xsss.getD j [] else smS ps (List.replicate Nn 0)) (fun j => if j < 2 then ysss.getD j [] else smS ps (List.replicate Nn 0)) ps.length (fun j => if j = 0 then g0 else g1) (fun j => if j = 0 then b0 else b1) w3
          (fun j hj W q p hp hc => part_any Nn ps Rf T E a0 ps.length c0 g false a l c 2 (by omega) (fun i => xsss.getD i []) (fun j => if j = 0 then g0 else g1) w3 HXA.out HRG4.out hNn hps hpb j W q p hp hc)
          (fun j hj W q p hp hc => part_any Nn ps Rf T E a0 ps.length c0 g false a l c 2 (by omega) (fun i => ysss.getD i []) (fun j => if j = 0 then b0 else b1) w3 HXB.out HRG4.out hNn hps hpb j W q p hp hc)
          (fun j hj W q v1 v2 q1 q2 => by
            rw [sumZ_add HBJ.out HBK.out j (by rw [HM.out, HM2.out]; omega), HM.out, HM2.out]
            exact add_part Nn ps Rf _ _ v1 v2 W hNn hps hpb (hok 2 xsss (fun j hj => HBJ.out j (by rw [HM.out]; exact hj)) j) (hok 2 ysss (fun j hj => HBK.out j (by rw [HM2.out]; exact hj)) j) q1 q2)
        have HCS : Hid (Calls Tryz.prog 67 #[.agg #[.int .i64 (Nn : Int), .int .i64 T, .int .i64 E, .slice a0 ps.length c0, .slice (some ⟨g, 0, none⟩) ps.length ps.length, .bool false, .slice a l c], .iface 125 (.agg #[.slice g0 ps.length ps.length, .slice g1 ps.length ps.length]), .iface 125 (.agg #[.slice b0 ps.length ps.length, .slice b1 ps.length ps.length])] w3 fun e w' => ∃ v', e = .returned v' ∧ Old w3 w' ∧ Ows (TS 109 1 2 (elP Nn false ps Rf (sumZ ps xsss ysss))) w' w3.heap.size w'.heap.size [v']) := cs
        have HPS : Hid (1 ≤ ps.length ∧ ps.length ≤ 6) := hps
        have HNN16 : Hid ((Nn : Int) ≤ 16) := (show (Nn : Int) ≤ 16 by omega)
        have HZLn : Hid ((sumZ ps xsss ysss).length = 2) := by
          show (sumZ ps xsss ysss).length = 2
          rw [sumZ_len, HM.out, HM2.out]
          rfl
        have HZR : Hid (∀ j, j < (sumZ ps xsss ysss).length → ((sumZ ps xsss ysss).getD j []).length = ps.length) := fun j hj => by
          have := (sumZ_row HNN16.out HPS.out.2 HCX.out HDX.out).2 ((sumZ ps xsss ysss).getD j []) (by
            rw [show (sumZ ps xsss ysss).getD j [] = (sumZ ps xsss ysss)[j] by simp [List.getD, hj]]
            exact List.getElem_mem hj)
          exact this.1
        have HEND : Hid (∀ w' r0, Old w w' → XC (sumZ ps xsss ysss) w' w.heap.size w'.heap.size r0 → CiA Z ok w (.returned (.tuple #[.agg r0, .bool true])) w') := fun w' r0 h1 h2 => by
          obtain ⟨e1, e2⟩ := HY.out (by rw [HBB.out, HCX.out, HDX.out]; rfl)
          rw [e1, e2]
          exact ⟨r0, rfl, h1, h2⟩
        have x0 := BX4.out.c (i := 0) rfl
        have x1 := BX4.out.c (i := 1) rfl
        have x2 := BX4.out.c (i := 2) rfl
        have x3 := BX4.out.c (i := 3) rfl
        have x4 := BX4.out.c (i := 4) rfl
        have x5 := BX4.out.c (i := 5) rfl
        have x6 := BX4.out.c (i := 6) rfl
        clear cs hok hz4 hbb hps hpb hNn y0 f0
        go_wp2_with fail
        refine HCS.out.mono ?_
        rintro e w4 ⟨v4, rfl, g4, o4⟩
        obtain ⟨a4, c4, rfl⟩ : ∃ a c, v4 = .slice a 2 c := by obtain ⟨_, B, hT, _⟩ := o4; exact TS.slice hT
        have cc := cipherOf_any Nn false ps Rf (sumZ ps xsss ysss) w3.heap.size (.slice a4 2 c4) w4 (by have := HPS.out; omega) (by rw [HZLn.out]; omega) HZR.out (by rw [HZLn.out]; exact o4) g4.size
        have HCC : Hid (Calls Tryz.prog 66 #[.slice a4 2 c4] w4 fun e w' => ∃ r0, e = .returned (.agg r0) ∧ Old w4 w' ∧ XC (sumZ ps xsss ysss) w' w3.heap.size w'.heap.size r0) := cc
        have HG5 : Hid (Old w w4) := Old.trans HG4.out g4
        have R5 : Hid (Bk w4 (w.heap.size + 1 + 1 + 1) #[.slice none 0 0] 42) := R4.out.old g4
        have hs3 := R4.out.lt
        clear cc g4 o4 HCS x0 x1 x2 x3 x4 x5 x6
        go_wp2_with fail
        refine HCC.out.mono ?_
        rintro e w5 ⟨r0, rfl, g5, x5⟩
        obtain ⟨a5, c5, rfl⟩ := shape_XC _ _ _ _ x5
        have HG6 : Hid (Old w w5) := Old.trans HG5.out g5
        have R6 : Hid (Bk w5 (w.heap.size + 1 + 1 + 1) #[.slice none 0 0] 42) := R5.out.old g5
        have HX5 : Hid (XC (sumZ ps xsss ysss) w5 w3.heap.size w5.heap.size #[.slice a5 (sumZ ps xsss ysss).length c5]) := x5
        have y0 := R6.out.c (i := 0) rfl
        have f0 : w5.frozen? ⟨w.heap.size + 1 + 1 + 1, 0, none⟩ = false := frozen_of_row _ _ _ _ _ R6.out
        clear g5 x5 HCC
        go_wp2_with fail
        have q0 := (ci_put R6.out (.slice a5 (sumZ ps xsss ysss).length c5)).c (i := 0) rfl
        refine bodyPost_ret (v := .tuple #[.agg #[.slice a5 (sumZ ps xsss ysss).length c5], .bool true]) (by simp [results, Tryz.results22, go_sem, q0]) rfl (HEND.out _ _ (HG6.out.own (p := ⟨w.heap.size + 1 + 1 + 1, 0, none⟩) (by simp; omega) _) ?_)
        obtain ⟨a6, c6, e6, o6⟩ := HX5.out
        simp at e6
        obtain ⟨rfl, rfl⟩ := e6
        refine ⟨a5, c5, rfl, ?_⟩
        have h2 := o6.putT (k := w.heap.size + 1 + 1 + 1) (j := 0) (x := .slice a5 (sumZ ps xsss ysss).length c5) (.inl (by omega))
        exact h2.low (lo' := w.heap.size) (by omega) (by simp) (Nat.le_refl _)
      · have HDX : Hid (ciB N ps ysss = true) := hD
        have HM2 : Hid (ysss.length = 3) := hmb
        have HPK : Hid (∀ j, j < 3 → PhG w2.heap.size N ps Rf uf2 j w3 ((fun j => if j = 0 then b0 else if j = 1 then b1 else b2) j)) := fun j hj => by
          rcases (show j = 0 ∨ j = 1 ∨ j = 2 by omega) with rfl | rfl | rfl
          · simpa using r0
          · simpa using r1
          · simpa using r2
        clear hD hmb r0 r1 r2
        obtain ⟨hz4, hbb, _⟩ := sp_ring HSP.out
        obtain ⟨Nn, rfl⟩ : ∃ Nn : Nat, N = (Nn : Int) := ⟨N.toNat, by omega⟩
        have hNn : 2 ≤ Nn ∧ Nn ≤ 16 := by omega
        have hps := (bas_at hbb).1
        have hpb : ∀ k, k < ps.length → 2 ≤ ps.getD k 0 ∧ ps.getD k 0 ≤ 268435456 := fun k hk => pm_bd ((bas_at hbb).2 k hk)
        have HBJ : Hid (∀ j, j < xsss.length → rwB Nn ps (xsss.getD j []) = true) := (rd_true HCX.out).2
        have HBK : Hid (∀ j, j < ysss.length → rwB Nn ps (ysss.getD j []) = true) := (rd_true HDX.out).2
        have HXA : Hid (∀ i, i < 2 → RdX Nn ps Rf (xsss.getD i []) w3 (.slice ((fun j => if j = 0 then g0 else g1) i) ps.length ps.length)) := fun i hi => by
          obtain ⟨b, _, hp⟩ := HPA1.out (by rw [HM.out]; omega)
          have hxl := (rw_parts (HBJ.out i (by rw [HM.out]; exact hi))).1
          have hat := (hp.2 i (by rw [HM.out]; exact hi)).2 (by omega)
          exact RdX_of hNn ((HPH.out i hi).old i _ _ _ HQ3.out) (hat.old HG4.out) (HBJ.out i (by rw [HM.out]; exact hi))
        have HXB : Hid (∀ i, i < 3 → RdX Nn ps Rf (ysss.getD i []) w3 (.slice ((fun j => if j = 0 then b0 else if j = 1 then b1 else b2) i) ps.length ps.length)) := fun i hi => by
          obtain ⟨b, _, hp⟩ := HPA2.out (by rw [HM2.out]; omega)
          have hxl := (rw_parts (HBK.out i (by rw [HM2.out]; exact hi))).1
          have hat := (hp.2 i (by rw [HM2.out]; exact hi)).2 (by omega)
          exact RdX_of hNn (HPK.out i hi) (hat.old HG4.out) (HBK.out i (by rw [HM2.out]; exact hi))
        have hok : ∀ (m : Nat) (xx : List (List (List Int))), (∀ j, j < m → rwB Nn ps (xx.getD j []) = true) → ∀ j, OkX Nn ps (if j < m then xx.getD j [] else smS ps (List.replicate Nn 0)) := fun m xx hh j => by
          by_cases h : j < m
          · rw [if_pos h]
            exact okX_rw (hh j h)
          · rw [if_neg h]
            exact okX_zero hpb
        have cs := sum_23 Nn T E a0 ps.length c0 (some ⟨g, 0, none⟩) ps.length ps.length false a l c ps Rf (sumZ ps xsss ysss) (fun j => if j < 2 then xsss.getD j [] else smS ps (List.replicate Nn 0)) (fun j => if j < 3 then ysss.getD j [] else smS ps (List.replicate Nn 0)) ps.length (fun j => if j = 0 then g0 else g1) (fun j => if j = 0 then b0 else if j = 1 then b1 else b2) w3
          (fun j hj W q p hp hc => part_any Nn ps Rf T E a0 ps.length c0 g false a l c 2 (by omega) (fun i => xsss.getD i []) (fun j => if j = 0 then g0 else g1) w3 HXA.out HRG4.out hNn hps hpb j W q p hp hc)
          (fun j hj W q p hp hc => part_any Nn ps Rf T E a0 ps.length c0 g false a l c 3 (by omega) (fun i => ysss.getD i []) (fun j => if j = 0 then b0 else if j = 1 then b1 else b2) w3 HXB.out HRG4.out hNn hps hpb j W q p hp hc)
          (fun j hj W q v1 v2 q1 q2 => by
            rw [sumZ_add HBJ.out HBK.out j (by rw [HM.out, HM2.out]; omega), HM.out, HM2.out]
            exact add_part Nn ps Rf _ _ v1 v2 W hNn hps hpb (hok 2 xsss (fun j hj => HBJ.out j (by rw [HM.out]; exact hj)) j) (hok 3 ysss (fun j hj => HBK.out j (by rw [HM2.out]; exact hj)) j) q1 q2)
        have HCS : Hid (Calls Tryz.prog 67 #[.agg #[.int .i64 (Nn : Int), .int .i64 T, .int .i64 E, .slice a0 ps.length c0, .slice (some ⟨g, 0, none⟩) ps.length ps.length, .bool false, .slice a l c], .iface 125 (.agg #[.slice g0 ps.length ps.length, .slice g1 ps.length ps.length]), .iface 167 (.agg #[.slice b0 ps.length ps.length, .slice b1 ps.length ps.length, .slice b2 ps.length ps.length])] w3 fun e w' => ∃ v', e = .returned v' ∧ Old w3 w' ∧ Ows (TS 109 1 3 (elP Nn false ps Rf (sumZ ps xsss ysss))) w' w3.heap.size w'.heap.size [v']) := cs
        have HPS : Hid (1 ≤ ps.length ∧ ps.length ≤ 6) := hps
        have HNN16 : Hid ((Nn : Int) ≤ 16) := (show (Nn : Int) ≤ 16 by omega)
        have HZLn : Hid ((sumZ ps xsss ysss).length = 3) := by
          show (sumZ ps xsss ysss).length = 3
          rw [sumZ_len, HM.out, HM2.out]
          rfl
        have HZR : Hid (∀ j, j < (sumZ ps xsss ysss).length → ((sumZ ps xsss ysss).getD j []).length = ps.length) := fun j hj => by
          have := (sumZ_row HNN16.out HPS.out.2 HCX.out HDX.out).2 ((sumZ ps xsss ysss).getD j []) (by
            rw [show (sumZ ps xsss ysss).getD j [] = (sumZ ps xsss ysss)[j] by simp [List.getD, hj]]
            exact List.getElem_mem hj)
          exact this.1
        have HEND : Hid (∀ w' r0, Old w w' → XC (sumZ ps xsss ysss) w' w.heap.size w'.heap.size r0 → CiA Z ok w (.returned (.tuple #[.agg r0, .bool true])) w') := fun w' r0 h1 h2 => by
          obtain ⟨e1, e2⟩ := HY.out (by rw [HBB.out, HCX.out, HDX.out]; rfl)
          rw [e1, e2]
          exact ⟨r0, rfl, h1, h2⟩
        have x0 := BX4.out.c (i := 0) rfl
        have x1 := BX4.out.c (i := 1) rfl
        have x2 := BX4.out.c (i := 2) rfl
        have x3 := BX4.out.c (i := 3) rfl
        have x4 := BX4.out.c (i := 4) rfl
        have x5 := BX4.out.c (i := 5) rfl
        have x6 := BX4.out.c (i := 6) rfl
        clear cs hok hz4 hbb hps hpb hNn y0 f0
        go_wp2_with fail
        refine HCS.out.mono ?_
        rintro e w4 ⟨v4, rfl, g4, o4⟩
        obtain ⟨a4, c4, rfl⟩ : ∃ a c, v4 = .slice a 3 c := by obtain ⟨_, B, hT, _⟩ := o4; exact TS.slice hT
        have cc := cipherOf_any Nn false ps Rf (sumZ ps xsss ysss) w3.heap.size (.slice a4 3 c4) w4 (by have := HPS.out; omega) (by rw [HZLn.out]; omega) HZR.out (by rw [HZLn.out]; exact o4) g4.size
        have HCC : Hid (Calls Tryz.prog 66 #[.slice a4 3 c4] w4 fun e w' => ∃ r0, e = .returned (.agg r0) ∧ Old w4 w' ∧ XC (sumZ ps xsss ysss) w' w3.heap.size w'.heap.size r0) := cc
        have HG5 : Hid (Old w w4) := Old.trans HG4.out g4
        have R5 : Hid (Bk w4 (w.heap.size + 1 + 1 + 1) #[.slice none 0 0] 42) := R4.out.old g4
        have hs3 := R4.out.lt
        clear cc g4 o4 HCS x0 x1 x2 x3 x4 x5 x6
        go_wp2_with fail
        refine HCC.out.mono ?_
        rintro e w5 ⟨r0, rfl, g5, x5⟩
        obtain ⟨a5, c5, rfl⟩ := shape_XC _ _ _ _ x5
        have HG6 : Hid (Old w w5) := Old.trans HG5.out g5
        have R6 : Hid (Bk w5 (w.heap.size + 1 + 1 + 1) #[.slice none 0 0] 42) := R5.out.old g5
        have HX5 : Hid (XC (sumZ ps xsss ysss) w5 w3.heap.size w5.heap.size #[.slice a5 (sumZ ps xsss ysss).length c5]) := x5
        have y0 := R6.out.c (i := 0) rfl
        have f0 : w5.frozen? ⟨w.heap.size + 1 + 1 + 1, 0, none⟩ = false := frozen_of_row _ _ _ _ _ R6.out
        clear g5 x5 HCC
        go_wp2_with fail
        have q0 := (ci_put R6.out (.slice a5 (sumZ ps xsss ysss).length c5)).c (i := 0) rfl
        refine bodyPost_ret (v := .tuple #[.agg #[.slice a5 (sumZ ps xsss ysss).length c5], .bool true]) (by simp [results, Tryz.results22, go_sem, q0]) rfl (HEND.out _ _ (HG6.out.own (p := ⟨w.heap.size + 1 + 1 + 1, 0, none⟩) (by simp; omega) _) ?_)
        obtain ⟨a6, c6, e6, o6⟩ := HX5.out
        simp at e6
        obtain ⟨rfl, rfl⟩ := e6
        refine ⟨a5, c5, rfl, ?_⟩
        have h2 := o6.putT (k := w.heap.size + 1 + 1 + 1) (j := 0) (x := .slice a5 (sumZ ps xsss ysss).length c5) (.inl (by omega))
        exact h2.low (lo' := w.heap.size) (by omega) (by simp) (Nat.le_refl _)
    · have HCX : Hid (ciB N ps xsss = true) := hC
      have HM : Hid (xsss.length = 3) := hm
      have HPH : Hid (∀ j, j < 3 → PhG (w1.heap.size + 1) N ps Rf uf1 j w2 ((fun j => if j = 0 then g0 else if j = 1 then g1 else g2) j)) := fun j hj => by
        rcases (show j = 0 ∨ j = 1 ∨ j = 2 by omega) with rfl | rfl | rfl
        · simpa using p0
        · simpa using p1
        · simpa using p2
      have HBASE : Hid (∀ j gp, PhG (w1.alloc (.cells #[.int .i64 N, .int .i64 T, .int .i64 E, .slice a0 ps.length c0, .slice (some ⟨g, 0, none⟩) ps.length ps.length, .bool false, .slice a l c] 73)).heap.size N ps Rf uf1 j w2 gp → True) := fun _ _ _ => trivial
      clear hC hm p0 p1 p2 HBASE
      go_wp2_with fail
      refine (cB _ HG3.out HRG3.out).mono ?_
      rintro e w3 ⟨g9, h⟩
      have HG4 : Hid (Old w w3) := Old.trans HG3.out g9
      have HQ3 : Hid (Old w2 w3) := g9
      have R4 : Hid (Bk w3 (w.heap.size + 1 + 1 + 1) #[.slice none 0 0] 42) := R3.out.old g9
      have BX4 : Hid (Bk w3 w1.heap.size #[.int .i64 N, .int .i64 T, .int .i64 E, .slice a0 ps.length c0, .slice (some ⟨g, 0, none⟩) ps.length ps.length, .bool false, .slice a l c] 73) := BX3.out.old g9
      have HRG4 : Hid (Rgs w3 g N ps Rf ps.length) := HRG3.out.old g9
      have y0 := R4.out.c (i := 0) rfl
      have f0 : w3.frozen? ⟨w.heap.size + 1 + 1 + 1, 0, none⟩ = false := frozen_of_row _ _ _ _ _ R4.out
      clear g9 cB x0 x1 x2 x3 x4 x5 x6 x7
      rcases h with ⟨hD, rfl⟩ | ⟨hD, hmb, b0, b1, rfl, r0, r1⟩ | ⟨hD, hmb, b0, b1, b2, rfl, r0, r1, r2⟩
      · have HB : Hid (Z = [] ∧ ok = false) := HNN.out (by rw [show ciB N ps ysss = false from hD, Bool.and_false])
        clear hD
        go_wp2_with fail
        have q0 := (ci_put R4.out (.slice none 0 0)).c (i := 0) rfl
        refine bodyPost_ret (v := .tuple #[.agg #[.slice none 0 0], .bool false]) (by simp [results, Tryz.results22, go_sem, q0]) rfl ?_
        rw [HB.out.1, HB.out.2]
        exact ⟨_, rfl, HG4.out.own (p := ⟨w.heap.size + 1 + 1 + 1, 0, none⟩) (by simp; omega) _, XC.nil2 (Nat.le_refl _)⟩
      · have HDX : Hid (ciB N ps ysss = true) := hD
        have HM2 : Hid (ysss.length = 2) := hmb
        have HPK : Hid (∀ j, j < 2 → PhG w2.heap.size N ps Rf uf2 j w3 ((fun j => if j = 0 then b0 else b1) j)) := fun j hj => by
          rcases (show j = 0 ∨ j = 1 by omega) with rfl | rfl
          · simpa using r0
          · simpa using r1
        clear hD hmb r0 r1
        obtain ⟨hz4, hbb, _⟩ := sp_ring HSP.out
        obtain ⟨Nn, rfl⟩ : ∃ Nn : Nat, N = (Nn : Int) := ⟨N.toNat, by omega⟩
        have hNn : 2 ≤ Nn ∧ Nn ≤ 16 := by omega
        have hps := (bas_at hbb).1
        have hpb : ∀ k, k < ps.length → 2 ≤ ps.getD k 0 ∧ ps.getD k 0 ≤ 268435456 := fun k hk => pm_bd ((bas_at hbb).2 k hk)
        have HBJ : Hid (∀ j, j < xsss.length → rwB Nn ps (xsss.getD j []) = true) := (rd_true HCX.out).2
        have HBK : Hid (∀ j, j < ysss.length → rwB Nn ps (ysss.getD j []) = true) := (rd_true HDX.out).2
        have HXA : Hid (∀ i, i < 3 → RdX Nn ps Rf (xsss.getD i []) w3 (.slice ((fun j => if j = 0 then g0 else if j = 1 then g1 else g2) i) ps.length ps.length)) := fun i hi => by
          obtain ⟨b, _, hp⟩ := HPA1.out (by rw [HM.out]; omega)
          have hxl := (rw_parts (HBJ.out i (by rw [HM.out]; exact hi))).1
          have hat := (hp.2 i (by rw [HM.out]; exact hi)).2 (by omega)
          exact RdX_of hNn ((HPH.out i hi).old i _ _ _ HQ3.out) (hat.old HG4.out) (HBJ.out i (by rw [HM.out]; exact hi))
        have HXB : Hid (∀ i, i < 2 → RdX Nn ps Rf (ysss.getD i []) w3 (.slice ((fun j => if j = 0 then b0 else b1) i) ps.length ps.length)) := fun i hi => by
          obtain ⟨b, _, hp⟩ := HPA2.out (by rw [HM2.out]; omega)
          have hxl := (rw_parts (HBK.out i (by rw [HM2.out]; exact hi))).1
          have hat := (hp.2 i (by rw [HM2.out]; exact hi)).2 (by omega)
          exact RdX_of hNn (HPK.out i hi) (hat.old HG4.out) (HBK.out i (by rw [HM2.out]; exact hi))
        have hok : ∀ (m : Nat) (xx : List (List (List Int))), (∀ j, j < m → rwB Nn ps (xx.getD j []) = true) → ∀ j, OkX Nn ps (if j < m then xx.getD j [] else smS ps (List.replicate Nn 0)) := fun m xx hh j => by
          by_cases h : j < m
          · rw [if_pos h]
            exact okX_rw (hh j h)
          · rw [if_neg h]
            exact okX_zero hpb
        have cs := sum_32 Nn T E a0 ps.length c0 (some ⟨g, 0, none⟩) ps.length ps.length false a l c ps Rf (sumZ ps xsss ysss) (fun j => if j < 3 then xsss.getD j [] else smS ps (List.replicate Nn 0)) (fun j => if j < 2 then ysss.getD j [] else smS ps (List.replicate Nn 0)) ps.length (fun j => if j = 0 then g0 else if j = 1 then g1 else g2) (fun j => if j = 0 then b0 else b1) w3
          (fun j hj W q p hp hc => part_any Nn ps Rf T E a0 ps.length c0 g false a l c 3 (by omega) (fun i => xsss.getD i []) (fun j => if j = 0 then g0 else if j = 1 then g1 else g2) w3 HXA.out HRG4.out hNn hps hpb j W q p hp hc)
          (fun j hj W q p hp hc => part_any Nn ps Rf T E a0 ps.length c0 g false a l c 2 (by omega) (fun i => ysss.getD i []) (fun j => if j = 0 then b0 else b1) w3 HXB.out HRG4.out hNn hps hpb j W q p hp hc)
          (fun j hj W q v1 v2 q1 q2 => by
            rw [sumZ_add HBJ.out HBK.out j (by rw [HM.out, HM2.out]; omega), HM.out, HM2.out]
            exact add_part Nn ps Rf _ _ v1 v2 W hNn hps hpb (hok 3 xsss (fun j hj => HBJ.out j (by rw [HM.out]; exact hj)) j) (hok 2 ysss (fun j hj => HBK.out j (by rw [HM2.out]; exact hj)) j) q1 q2)
        have HCS : Hid (Calls Tryz.prog 67 #[.agg #[.int .i64 (Nn : Int), .int .i64 T, .int .i64 E, .slice a0 ps.length c0, .slice (some ⟨g, 0, none⟩) ps.length ps.length, .bool false, .slice a l c], .iface 167 (.agg #[.slice g0 ps.length ps.length, .slice g1 ps.length ps.length, .slice g2 ps.length ps.length]), .iface 125 (.agg #[.slice b0 ps.length ps.length, .slice b1 ps.length ps.length])] w3 fun e w' => ∃ v', e = .returned v' ∧ Old w3 w' ∧ Ows (TS 109 1 3 (elP Nn false ps Rf (sumZ ps xsss ysss))) w' w3.heap.size w'.heap.size [v']) := cs
        have HPS : Hid (1 ≤ ps.length ∧ ps.length ≤ 6) := hps
        have HNN16 : Hid ((Nn : Int) ≤ 16) := (show (Nn : Int) ≤ 16 by omega)
        have HZLn : Hid ((sumZ ps xsss ysss).length = 3) := by
          show (sumZ ps xsss ysss).length = 3
          rw [sumZ_len, HM.out, HM2.out]
          rfl
        have HZR : Hid (∀ j, j < (sumZ ps xsss ysss).length → ((sumZ ps xsss ysss).getD j []).length = ps.length) := fun j hj => by
          have := (sumZ_row HNN16.out HPS.out.2 HCX.out HDX.out).2 ((sumZ ps xsss ysss).getD j []) (by
            rw [show (sumZ ps xsss ysss).getD j [] = (sumZ ps xsss ysss)[j] by simp [List.getD, hj]]
            exact List.getElem_mem hj)
          exact this.1
        have HEND : Hid (∀ w' r0, Old w w' → XC (sumZ ps xsss ysss) w' w.heap.size w'.heap.size r0 → CiA Z ok w (.returned (.tuple #[.agg r0, .bool true])) w') := fun w' r0 h1 h2 => by
          obtain ⟨e1, e2⟩ := HY.out (by rw [HBB.out, HCX.out, HDX.out]; rfl)
          rw [e1, e2]
          exact ⟨r0, rfl, h1, h2⟩
        have x0 := BX4.out.c (i := 0) rfl
        have x1 := BX4.out.c (i := 1) rfl
        have x2 := BX4.out.c (i := 2) rfl
        have x3 := BX4.out.c (i := 3) rfl
        have x4 := BX4.out.c (i := 4) rfl
        have x5 := BX4.out.c (i := 5) rfl
        have x6 := BX4.out.c (i := 6) rfl
        clear cs hok hz4 hbb hps hpb hNn y0 f0
        go_wp2_with fail
        refine HCS.out.mono ?_
        rintro e w4 ⟨v4, rfl, g4, o4⟩
        obtain ⟨a4, c4, rfl⟩ : ∃ a c, v4 = .slice a 3 c := by obtain ⟨_, B, hT, _⟩ := o4; exact TS.slice hT
        have cc := cipherOf_any Nn false ps Rf (sumZ ps xsss ysss) w3.heap.size (.slice a4 3 c4) w4 (by have := HPS.out; omega) (by rw [HZLn.out]; omega) HZR.out (by rw [HZLn.out]; exact o4) g4.size
        have HCC : Hid (Calls Tryz.prog 66 #[.slice a4 3 c4] w4 fun e w' => ∃ r0, e = .returned (.agg r0) ∧ Old w4 w' ∧ XC (sumZ ps xsss ysss) w' w3.heap.size w'.heap.size r0) := cc
        have HG5 : Hid (Old w w4) := Old.trans HG4.out g4
        have R5 : Hid (Bk w4 (w.heap.size + 1 + 1 + 1) #[.slice none 0 0] 42) := R4.out.old g4
        have hs3 := R4.out.lt
        clear cc g4 o4 HCS x0 x1 x2 x3 x4 x5 x6
        go_wp2_with fail
        refine HCC.out.mono ?_
        rintro e w5 ⟨r0, rfl, g5, x5⟩
        obtain ⟨a5, c5, rfl⟩ := shape_XC _ _ _ _ x5
        have HG6 : Hid (Old w w5) := Old.trans HG5.out g5
        have R6 : Hid (Bk w5 (w.heap.size + 1 + 1 + 1) #[.slice none 0 0] 42) := R5.out.old g5
        have HX5 : Hid (XC (sumZ ps xsss ysss) w5 w3.heap.size w5.heap.size #[.slice a5 (sumZ ps xsss ysss).length c5]) := x5
        have y0 := R6.out.c (i := 0) rfl
        have f0 : w5.frozen? ⟨w.heap.size + 1 + 1 + 1, 0, none⟩ = false := frozen_of_row _ _ _ _ _ R6.out
        clear g5 x5 HCC
        go_wp2_with fail
        have q0 := (ci_put R6.out (.slice a5 (sumZ ps xsss ysss).length c5)).c (i := 0) rfl
        refine bodyPost_ret (v := .tuple #[.agg #[.slice a5 (sumZ ps xsss ysss).length c5], .bool true]) (by simp [results, Tryz.results22, go_sem, q0]) rfl (HEND.out _ _ (HG6.out.own (p := ⟨w.heap.size + 1 + 1 + 1, 0, none⟩) (by simp; omega) _) ?_)
        obtain ⟨a6, c6, e6, o6⟩ := HX5.out
        simp at e6
        obtain ⟨rfl, rfl⟩ := e6
        refine ⟨a5, c5, rfl, ?_⟩
        have h2 := o6.putT (k := w.heap.size + 1 + 1 + 1) (j := 0) (x := .slice a5 (sumZ ps xsss ysss).length c5) (.inl (by omega))
        exact h2.low (lo' := w.heap.size) (by omega) (by simp) (Nat.le_refl _)
      · have HDX : Hid (ciB N ps ysss = true) := hD
        have HM2 : Hid (ysss.length = 3) := hmb
        have HPK : Hid (∀ j, j < 3 → PhG w2.heap.size N ps Rf uf2 j w3 ((fun j => if j = 0 then b0 else if j = 1 then b1 else b2) j)) := fun j hj => by
          rcases (show j = 0 ∨ j = 1 ∨ j = 2 by omega) with rfl | rfl | rfl
          · simpa using r0
          · simpa using r1
          · simpa using r2
        clear hD hmb r0 r1 r2
        obtain ⟨hz4, hbb, _⟩ := sp_ring HSP.out
        obtain ⟨Nn, rfl⟩ : ∃ Nn : Nat, N = (Nn : Int) := ⟨N.toNat, by omega⟩
        have hNn : 2 ≤ Nn ∧ Nn ≤ 16 := by omega
        have hps := (bas_at hbb).1
        have hpb : ∀ k, k < ps.length → 2 ≤ ps.getD k 0 ∧ ps.getD k 0 ≤ 268435456 := fun k hk => pm_bd ((bas_at hbb).2 k hk)
        have HBJ : Hid (∀ j, j < xsss.length → rwB Nn ps (xsss.getD j []) = true) := (rd_true HCX.out).2
        have HBK : Hid (∀ j, j < ysss.length → rwB Nn ps (ysss.getD j []) = true) := (rd_true HDX.out).2
        have HXA : Hid (∀ i, i < 3 → RdX Nn ps Rf (xsss.getD i []) w3 (.slice ((fun j => if j = 0 then g0 else if j = 1 then g1 else g2) i) ps.length ps.length)) := fun i hi => by
          obtain ⟨b, _, hp⟩ := HPA1.out (by rw [HM.out]; omega)
          have hxl := (rw_parts (HBJ.out i (by rw [HM.out]; exact hi))).1
          have hat := (hp.2 i (by rw [HM.out]; exact hi)).2 (by omega)
          exact RdX_of hNn ((HPH.out i hi).old i _ _ _ HQ3.out) (hat.old HG4.out) (HBJ.out i (by rw [HM.out]; exact hi))
        have HXB : Hid (∀ i, i < 3 → RdX Nn ps Rf (ysss.getD i []) w3 (.slice ((fun j => if j = 0 then b0 else if j = 1 then b1 else b2) i) ps.length ps.length)) := fun i hi => by
          obtain ⟨b, _, hp⟩ := HPA2.out (by rw [HM2.out]; omega)
          have hxl := (rw_parts (HBK.out i (by rw [HM2.out]; exact hi))).1
          have hat := (hp.2 i (by rw [HM2.out]; exact hi)).2 (by omega)
          exact RdX_of hNn (HPK.out i hi) (hat.old HG4.out) (HBK.out i (by rw [HM2.out]; exact hi))
        have hok : ∀ (m : Nat) (xx : List (List (List Int))), (∀ j, j < m → rwB Nn ps (xx.getD j []) = true) → ∀ j, OkX Nn ps (if j < m then xx.getD j [] else smS ps (List.replicate Nn 0)) := fun m xx hh j => by
          by_cases h : j < m
          · rw [if_pos h]
            exact okX_rw (hh j h)
          · rw [if_neg h]
            exact okX_zero hpb
        have cs := sum_33 Nn T E a0 ps.length c0 (some ⟨g, 0, none⟩) ps.length ps.length false a l c ps Rf (sumZ ps xsss ysss) (fun j => if j < 3 then xsss.getD j [] else smS ps (List.replicate Nn 0)) (fun j => if j < 3 then ysss.getD j [] else smS ps (List.replicate Nn 0)) ps.length (fun j => if j = 0 then g0 else if j = 1 then g1 else g2) (fun j => if j = 0 then b0 else if j = 1 then b1 else b2) w3
          (fun j hj W q p hp hc => part_any Nn ps Rf T E a0 ps.length c0 g false a l c 3 (by omega) (fun i => xsss.getD i []) (fun j => if j = 0 then g0 else if j = 1 then g1 else g2) w3 HXA.out HRG4.out hNn hps hpb j W q p hp hc)
          (fun j hj W q p hp hc => part_any Nn ps Rf T E a0 ps.length c0 g false a l c 3 (by omega) (fun i => ysss.getD i []) (fun j => if j = 0 then b0 else if j = 1 then b1 else b2) w3 HXB.out HRG4.out hNn hps hpb j W q p hp hc)
          (fun j hj W q v1 v2 q1 q2 => by
            rw [sumZ_add HBJ.out HBK.out j (by rw [HM.out, HM2.out]; omega), HM.out, HM2.out]
            exact add_part Nn ps Rf _ _ v1 v2 W hNn hps hpb (hok 3 xsss (fun j hj => HBJ.out j (by rw [HM.out]; exact hj)) j) (hok 3 ysss (fun j hj => HBK.out j (by rw [HM2.out]; exact hj)) j) q1 q2)
        have HCS : Hid (Calls Tryz.prog 67 #[.agg #[.int .i64 (Nn : Int), .int .i64 T, .int .i64 E, .slice a0 ps.length c0, .slice (some ⟨g, 0, none⟩) ps.length ps.length, .bool false, .slice a l c], .iface 167 (.agg #[.slice g0 ps.length ps.length, .slice g1 ps.length ps.length, .slice g2 ps.length ps.length]), .iface 167 (.agg #[.slice b0 ps.length ps.length, .slice b1 ps.length ps.length, .slice b2 ps.length ps.length])] w3 fun e w' => ∃ v', e = .returned v' ∧ Old w3 w' ∧ Ows (TS 109 1 3 (elP Nn false ps Rf (sumZ ps xsss ysss))) w' w3.heap.size w'.heap.size [v']) := cs
        have HPS : Hid (1 ≤ ps.length ∧ ps.length ≤ 6) := hps
        have HNN16 : Hid ((Nn : Int) ≤ 16) := (show (Nn : Int) ≤ 16 by omega)
        have HZLn : Hid ((sumZ ps xsss ysss).length = 3) := by
          show (sumZ ps xsss ysss).length = 3
          rw [sumZ_len, HM.out, HM2.out]
          rfl
        have HZR : Hid (∀ j, j < (sumZ ps xsss ysss).length → ((sumZ ps xsss ysss).getD j []).length = ps.length) := fun j hj => by
          have := (sumZ_row HNN16.out HPS.out.2 HCX.out HDX.out).2 ((sumZ ps xsss ysss).getD j []) (by
            rw [show (sumZ ps xsss ysss).getD j [] = (sumZ ps xsss ysss)[j] by simp [List.getD, hj]]
            exact List.getElem_mem hj)
          exact this.1
        have HEND : Hid (∀ w' r0, Old w w' → XC (sumZ ps xsss ysss) w' w.heap.size w'.heap.size r0 → CiA Z ok w (.returned (.tuple #[.agg r0, .bool true])) w') := fun w' r0 h1 h2 => by
          obtain ⟨e1, e2⟩ := HY.out (by rw [HBB.out, HCX.out, HDX.out]; rfl)
          rw [e1, e2]
          exact ⟨r0, rfl, h1, h2⟩
        have x0 := BX4.out.c (i := 0) rfl
        have x1 := BX4.out.c (i := 1) rfl
        have x2 := BX4.out.c (i := 2) rfl
        have x3 := BX4.out.c (i := 3) rfl
        have x4 := BX4.out.c (i := 4) rfl
        have x5 := BX4.out.c (i := 5) rfl
        have x6 := BX4.out.c (i := 6) rfl
        clear cs hok hz4 hbb hps hpb hNn y0 f0
        go_wp2_with fail
        refine HCS.out.mono ?_
        rintro e w4 ⟨v4, rfl, g4, o4⟩
        obtain ⟨a4, c4, rfl⟩ : ∃ a c, v4 = .slice a 3 c := by obtain ⟨_, B, hT, _⟩ := o4; exact TS.slice hT
        have cc := cipherOf_any Nn false ps Rf (sumZ ps xsss ysss) w3.heap.size (.slice a4 3 c4) w4 (by have := HPS.out; omega) (by rw [HZLn.out]; omega) HZR.out (by rw [HZLn.out]; exact o4) g4.size
        have HCC : Hid (Calls Tryz.prog 66 #[.slice a4 3 c4] w4 fun e w' => ∃ r0, e = .returned (.agg r0) ∧ Old w4 w' ∧ XC (sumZ ps xsss ysss) w' w3.heap.size w'.heap.size r0) := cc
        have HG5 : Hid (Old w w4) := Old.trans HG4.out g4
        have R5 : Hid (Bk w4 (w.heap.size + 1 + 1 + 1) #[.slice none 0 0] 42) := R4.out.old g4
        have hs3 := R4.out.lt
        clear cc g4 o4 HCS x0 x1 x2 x3 x4 x5 x6
        go_wp2_with fail
        refine HCC.out.mono ?_
        rintro e w5 ⟨r0, rfl, g5, x5⟩
        obtain ⟨a5, c5, rfl⟩ := shape_XC _ _ _ _ x5
        have HG6 : Hid (Old w w5) := Old.trans HG5.out g5
        have R6 : Hid (Bk w5 (w.heap.size + 1 + 1 + 1) #[.slice none 0 0] 42) := R5.out.old g5
        have HX5 : Hid (XC (sumZ ps xsss ysss) w5 w3.heap.size w5.heap.size #[.slice a5 (sumZ ps xsss ysss).length c5]) := x5
        have y0 := R6.out.c (i := 0) rfl
        have f0 : w5.frozen? ⟨w.heap.size + 1 + 1 + 1, 0, none⟩ = false := frozen_of_row _ _ _ _ _ R6.out
        clear g5 x5 HCC
        go_wp2_with fail
        have q0 := (ci_put R6.out (.slice a5 (sumZ ps xsss ysss).length c5)).c (i := 0) rfl
        refine bodyPost_ret (v := .tuple #[.agg #[.slice a5 (sumZ ps xsss ysss).length c5], .bool true]) (by simp [results, Tryz.results22, go_sem, q0]) rfl (HEND.out _ _ (HG6.out.own (p := ⟨w.heap.size + 1 + 1 + 1, 0, none⟩) (by simp; omega) _) ?_)
        obtain ⟨a6, c6, e6, o6⟩ := HX5.out
        simp at e6
        obtain ⟨rfl, rfl⟩ := e6
        refine ⟨a5, c5, rfl, ?_⟩
        have h2 := o6.putT (k := w.heap.size + 1 + 1 + 1) (j := 0) (x := .slice a5 (sumZ ps xsss ysss).length c5) (.inl (by omega))
        exact h2.low (lo' := w.heap.size) (by omega) (by simp) (Nat.le_refl _)
end Go.Proofs.YtakleianimcmdaaGreatDoor
/- Proved: the statement on AddCiphers at every argument, in a world in which the two tables are laid. -/
namespace Go.Proofs.YtakleianimcmdaaGreatDoor
open Go.ChangeShapes Go.WideShapes Go.ChangeAt Go.RowKit
set_option linter.unusedVariables false
set_option linter.unusedSimpArgs false
set_option maxRecDepth 100000 in
theorem spec_AddCiphers_any (N T E : Int) (ps : List Int) (xsss ysss : List (List (List Int))) (v u t : Value) (w : World) (hv : Row w v ps) (hf : Fit v) (hu : RowT w u xsss) (ht : RowT w t ysss) (hlp : ps.length ≤ 9223372036854775807) (hl : xsss.length ≤ 1048576) (hr : ∀ r ∈ xsss, r.length ≤ 1048576 ∧ ∀ q ∈ r, q.length ≤ 1048576) (hl2 : ysss.length ≤ 1048576) (hr2 : ∀ r ∈ ysss, r.length ≤ 1048576 ∧ ∀ q ∈ r, q.length ≤ 1048576) (hx : ∀ x ∈ ps, -9223372036854775808 ≤ x ∧ x ≤ 9223372036854775807) (Z : List (List (List Int))) (ok : Bool) (hy : (prB N T E ps && ciB N ps xsss && ciB N ps ysss) = true → Z = sumZ ps xsss ysss ∧ ok = true) (hn : (prB N T E ps && ciB N ps xsss && ciB N ps ysss) = false → Z = [] ∧ ok = false) :
    Calls Tryz.prog 20 #[.agg #[.int .i64 N, .int .i64 T, .int .i64 E, v], .agg #[u], .agg #[t]] w (CiA Z ok w) := by
  have KG := fun W (g : Old w W) => spec_goodCipher N T E ps xsss v u W (hv.old g) hf (hu.old g) hlp hl hr hx
  have KP := fun (h : (prB N T E ps && ciB N ps xsss) = true) W (g : Old w W) => l9Cipher_any N T E ps ysss v t W (hv.old g) (ht.old g) hl2 hr2 (prB_sp ((Bool.and_eq_true _ _ ▸ h).1))
  obtain ⟨a0, c0, ev⟩ := hv.slice
  subst ev
  cases h : (prB N T E ps && ciB N ps xsss && ciB N ps ysss)
  · obtain ⟨rfl, rfl⟩ := hn h
    obtain ⟨a1, c1, eu⟩ := hu.slice
    obtain ⟨a2, c2, et⟩ := ht.slice
    subst eu et
    exact spec_AddCiphers_no N T E _ _ _ _ _ _ _ _ _ _ _ w h KG KP
  · obtain ⟨rfl, rfl⟩ := hy h
    rw [Bool.and_eq_true] at h
    obtain ⟨h1, h2⟩ := h
    rw [h1] at KG
    replace KP := KP h1
    rw [h2] at KP
    rw [Bool.and_eq_true] at h1
    obtain ⟨hm, hB⟩ := rd_true h1.2
    obtain ⟨hm2, hB2⟩ := rd_true h2
    obtain ⟨hz4, hbb, hok⟩ := sp_ring (prB_sp h1.1)
    have hps := (bas_at hbb).1
    have hpb : ∀ k, k < ps.length → 2 ≤ ps.getD k 0 ∧ ps.getD k 0 ≤ 268435456 := fun k hk => pm_bd ((bas_at hbb).2 k hk)
    have hown : ∀ xss, rwB N ps xss = true → (1 ≤ xss.length ∧ xss.length ≤ 6) ∧ ∀ k, k < xss.length → 1 ≤ (xss.getD k []).length ∧ (xss.getD k []).length ≤ 16 := fun xss hw => by
      obtain ⟨q1, q2⟩ := rw_parts hw
      refine ⟨by omega, fun k hk => ?_⟩
      have := (poly_parts (q2 k (by omega))).1
      omega
    rcases hu with ⟨a, cap, e, e2⟩ | ⟨b, o, cap, us, e, hb, h0, hc⟩
    · rw [e2] at hm
      simp at hm
    rcases ht with ⟨a, cap', e', e2⟩ | ⟨b', o', cap', us', e', hb', h0', hc'⟩
    · rw [e2] at hm2
      simp at hm2
    subst e e'
    refine spec_AddCiphers_yes N T E _ _ _ b o xsss.length cap b' o' ysss.length cap' (sumZ ps xsss ysss) us us' w hm hm2 (sumZ_len _ _ _) hb hb' (fun j hj => ?_) (fun j hj => (hc j hj).1) (fun j hj => ?_) (fun j hj => (hc' j hj).1) KG KP (fun j hj hj2 W g => ?_) (fun j hj hj2 W g => ?_) (fun j hj hj2 W g => ?_)
    · obtain ⟨x, y, e⟩ := (hc j hj).2.slice
      exact ⟨x, _, y, e⟩
    · obtain ⟨x, y, e⟩ := (hc' j hj).2.slice
      exact ⟨x, _, y, e⟩
    · rw [sumZ_get _ _ _ _ (by omega), if_pos hj, if_pos hj2]
      obtain ⟨q1, q2⟩ := rw_parts (hB j hj)
      obtain ⟨s1, s2⟩ := rw_parts (hB2 j hj2)
      refine spec_l5Add N ps (xsss.getD j []) (ysss.getD j []) _ (us j) (us' j) W (hv.old g) ((hc j hj).2.old g) ((hc' j hj2).2.old g) hps q1 s1 (fun k hk => ?_)
      obtain ⟨p1, p2⟩ := poly_parts (q2 k hk)
      obtain ⟨r1, r2⟩ := poly_parts (s2 k hk)
      have := hpb k hk
      refine ⟨by omega, by omega, this, fun i hi => ?_⟩
      have := p2 i hi
      have := r2 i (by omega)
      omega
    · rw [sumZ_get _ _ _ _ (by omega), if_neg (by omega)]
      obtain ⟨s1, s2⟩ := hown _ (hB2 j hj2)
      exact spec_l9Own (ysss.getD j []) (us' j) W ((hc' j hj2).2.old g) s1 s2
    · rw [sumZ_get _ _ _ _ (by omega), if_pos hj, if_neg (by omega)]
      obtain ⟨s1, s2⟩ := hown _ (hB j hj)
      exact spec_l9Own (xsss.getD j []) (us j) W ((hc j hj).2.old g) s1 s2
set_option maxRecDepth 100000 in
theorem AddCiphers_any (N T E : Int) (xs : List Int) (xsss ysss : List (List (List Int))) (v u t : Value) (w : World) (hv : Row w v xs) (hl : xs.length ≤ 9223372036854775807) (hx : ∀ x ∈ xs, -9223372036854775808 ≤ x ∧ x ≤ 9223372036854775807) (hu : RowT w u xsss) (hs : xsss.length ≤ 9223372036854775807) (hsr : ∀ r ∈ xsss, r.length ≤ 9223372036854775807 ∧ ∀ q ∈ r, q.length ≤ 9223372036854775807) (ht : RowT w t ysss) (hs2 : ysss.length ≤ 9223372036854775807) (hsr2 : ∀ r ∈ ysss, r.length ≤ 9223372036854775807 ∧ ∀ q ∈ r, q.length ≤ 9223372036854775807) (hP : PrsW w) (hT : TabW w) :
    Calls Tryz.prog 5 #[.agg #[.int .i64 N, .int .i64 T, .int .i64 E, v], .agg #[u], .agg #[t]] w fun e w' => e = .returned (.bool true) ∧ Old w w' := by
  obtain ⟨a0, c0, rfl⟩ := hv.slice
  obtain ⟨a1, c1, eu⟩ := hu.slice
  obtain ⟨a2, c2, et⟩ := ht.slice
  subst eu et
  have bnd : ∀ {A : Prop}, ¬ leftN 1048576 xs.length < 0 → ¬ leftTT (leftN 1048576 xs.length) xsss < 0 → ¬ leftTT (leftTT (leftN 1048576 xs.length) xsss) ysss < 0 → (xs.length ≤ 1048576 → xsss.length ≤ 1048576 → (∀ r ∈ xsss, r.length ≤ 1048576 ∧ ∀ q ∈ r, q.length ≤ 1048576) → offT xsss xsss.length ≤ 1048576 → ysss.length ≤ 1048576 → (∀ r ∈ ysss, r.length ≤ 1048576 ∧ ∀ q ∈ r, q.length ≤ 1048576) → offT ysss ysss.length ≤ 1048576 → A) → A := fun h0 h1 h2 k => by
    obtain ⟨q1, q2, q3⟩ := leftN_ok h0 (by omega)
    obtain ⟨p1, p2, p3, p4, p5⟩ := leftTT_ok q3 h1
    obtain ⟨s1, s2, s3, s4, s5⟩ := leftTT_ok p1 h2
    exact k (by omega) (by omega) (fun r hr => by
      have := p5 r hr
      exact ⟨by omega, fun q hq => by have := this.2 q hq; omega⟩) (by omega) (by omega) (fun r hr => by
      have := s5 r hr
      exact ⟨by omega, fun q hq => by have := this.2 q hq; omega⟩) (by omega)
  obtain ⟨Z, ok, hy, hn, z1, z2⟩ : ∃ (Z : List (List (List Int))) (ok : Bool), ((prB N T E xs && ciB N xs xsss && ciB N xs ysss) = true → Z = sumZ xs xsss ysss ∧ ok = true) ∧ ((prB N T E xs && ciB N xs xsss && ciB N xs ysss) = false → Z = [] ∧ ok = false) ∧ Z.length ≤ 3 ∧ ∀ r ∈ Z, r.length ≤ 6 ∧ ∀ q ∈ r, q.length ≤ 16 := by
    cases h : (prB N T E xs && ciB N xs xsss && ciB N xs ysss)
    · exact ⟨[], false, (fun h => by cases h), (fun _ => ⟨rfl, rfl⟩), by simp, fun r hr => by cases hr⟩
    · rw [Bool.and_eq_true, Bool.and_eq_true] at h
      obtain ⟨⟨h1, h2⟩, h3⟩ := h
      obtain ⟨hz4, hbb, _⟩ := sp_ring (prB_sp h1)
      have h6 := (bas_at hbb).1.2
      have := sumZ_row (by omega) h6 h2 h3
      exact ⟨sumZ xs xsss ysss, true, (fun _ => ⟨rfl, rfl⟩), (fun h => by cases h), this.1, fun r hr => ⟨by have := (this.2 r hr).1; omega, (this.2 r hr).2⟩⟩
  have ho : offT Z Z.length ≤ 288 := by
    have := offT_bd Z 6 16 z2
    omega
  have z3 : ∀ r ∈ Z, r.length ≤ 1048576 ∧ ∀ q ∈ r, q.length ≤ 1048576 := fun r hr => by
    have := z2 r hr
    exact ⟨by omega, fun q hq => by have := this.2 q hq; omega⟩
  refine law9_AddCiphers w N T E xs.length a0 c0 xsss.length a1 c1 ysss.length a2 c2 Z.length ok (leftN 1048576 xs.length) (leftTT (leftN 1048576 xs.length) xsss) (leftTT (leftTT (leftN 1048576 xs.length) xsss) ysss)
    (fun W g => kp_sz N T E a0 xs.length c0 1048576 W hl (by omega) (by omega))
    (fun h0 W g => by
      obtain ⟨q1, q2, q3⟩ := leftN_ok h0 (by omega)
      exact kc_sz xsss _ _ W (hu.old g) hs hsr q3 (by omega))
    (fun h0 h1 W g => by
      obtain ⟨q1, q2, q3⟩ := leftN_ok h0 (by omega)
      obtain ⟨p1, p2, p3, p4, p5⟩ := leftTT_ok q3 h1
      exact kc_sz ysss _ _ W (ht.old g) hs2 hsr2 p1 (by omega))
    (XP N T E xs) (far_XP N T E xs) shape_XP (fun h0 h1 h2 W g => bnd h0 h1 h2 fun h3 _ _ _ _ _ _ => kp_to N T E xs _ W (hv.old g) h3) (fun h0 h1 h2 W lo hi g lo' hi' g' k k' => bnd h0 h1 h2 fun h3 _ _ _ _ _ _ => kp_eq N T E xs W lo hi g lo' hi' g' k k' (by omega))
    (1 + xs.length) (by omega) (fun h0 h1 h2 W lo hi g k => bnd h0 h1 h2 fun h3 _ _ _ _ _ _ => kp_mark N T E xs 1 W lo hi g k h3 (by omega) (by omega))
    (XC xsss) (far_XC xsss) shape_XC (fun h0 h1 h2 W g => bnd h0 h1 h2 fun _ h3 h4 _ _ _ _ => kc_to xsss _ W (hu.old g) h3 h4) (fun h0 h1 h2 W lo hi g lo' hi' g' k k' => bnd h0 h1 h2 fun _ h3 h4 _ _ _ _ => kc_eq xsss W lo hi g lo' hi' g' k k' h3 h4)
    (1 + xs.length + offT xsss xsss.length) (by omega) (fun h0 h1 h2 W lo hi g k => bnd h0 h1 h2 fun h2 h3 h4 h5 _ _ _ => (kc_mark xsss (1 + xs.length) W lo hi g k h3 h4 (by omega) (by omega)).mono (fun e w' h => ⟨h.1, h.2.1⟩))
    (XC ysss) (far_XC ysss) shape_XC (fun h0 h1 h2 W g => bnd h0 h1 h2 fun _ _ _ _ h3 h4 _ => kc_to ysss _ W (ht.old g) h3 h4) (fun h0 h1 h2 W lo hi g lo' hi' g' k k' => bnd h0 h1 h2 fun _ _ _ _ h3 h4 _ => kc_eq ysss W lo hi g lo' hi' g' k k' h3 h4)
    (1 + xs.length + offT xsss xsss.length + offT ysss ysss.length) (by omega) (fun h0 h1 h2 W lo hi g k => bnd h0 h1 h2 fun h2 _ _ h5 h3 h4 h6 => (kc_mark ysss (1 + xs.length + offT xsss xsss.length) W lo hi g k h3 h4 (by omega) (by omega)).mono (fun e w' h => ⟨h.1, h.2.1⟩))
    (XC Z) (far_XC _) shape_XC (XC Z) (far_XC _) shape_XC (XCm 1 Z) (far_XCm _ _) shape_XCm
    (fun h0 h1 h2 W lo hi g lo1 hi1 g1 lo2 hi2 g2 k k1 k2 q => bnd h0 h1 h2 fun _ h3 h4 _ h5 h6 _ => ?_) (fun h0 h1 h2 W lo hi g lo1 hi1 g1 lo2 hi2 g2 k k1 k2 q => bnd h0 h1 h2 fun _ h3 h4 _ h5 h6 _ => ?_)
    (fun h0 h1 h2 W lo hi p lo' hi' p' k k' => kc_eq Z W lo hi p lo' hi' p' k k' (by omega) z3)
    (1 + offT Z Z.length) (by omega) (fun h0 h1 h2 W lo hi p k => kc_mark Z 1 W lo hi p k (by omega) z3 (by omega) (by omega))
    (fun h0 h1 h2 W lo hi p k => kc_held Z 1 W lo hi p k (by omega) z3 (by omega) (by omega))
  · obtain ⟨a, c, rfl, o, f⟩ := k
    obtain ⟨a', c', rfl, o'⟩ := k1
    obtain ⟨a'', c'', rfl, o''⟩ := k2
    exact spec_AddCiphers_any N T E xs xsss ysss _ _ _ W o.row f o'.rowT o''.rowT hl h3 h4 h5 h6 hx Z ok hy hn
  · obtain ⟨a, c, rfl, o, f⟩ := k
    obtain ⟨a', c', rfl, o'⟩ := k1
    obtain ⟨a'', c'', rfl, o''⟩ := k2
    exact impl_AddCiphers N T E xs xsss ysss _ _ _ W lo1 hi1 lo2 hi2 (hP.old q) (hT.old q) o.row f o' o'' hl h3 h4 h5 h6 Z ok hy hn
end Go.Proofs.YtakleianimcmdaaGreatDoor
