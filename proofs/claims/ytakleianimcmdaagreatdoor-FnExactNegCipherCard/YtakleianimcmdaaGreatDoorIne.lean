/- Proved: the contract of the program's NegCipher. -/
import Derived.Test.YtakleianimcmdaaGreatDoorA26
import Derived.Test.YtakleianimcmdaaGreatDoorSml
import Derived.Test.YtakleianimcmdaaGreatDoorA28
import Derived.Test.YtakleianimcmdaaGreatDoorA18
import Derived.Test.YtakleianimcmdaaGreatDoorA17
namespace Go.Proofs.YtakleianimcmdaaGreatDoor
open Go.ChangeShapes Go.WideShapes Go.ChangeAt Go.RowKit
set_option linter.unusedVariables false
set_option linter.unusedSimpArgs false
theorem rw_parts {N : Int} {ps : List Int} {xss : List (List Int)} (h : rwB N ps xss = true) : xss.length = ps.length ∧ ∀ k, k < ps.length → polyB (ps.getD k 0) N (xss.getD k []) = true := by
  unfold rwB at h
  rw [Bool.and_eq_true] at h
  refine ⟨of_decide_eq_true h.1, fun k hk => ?_⟩
  have h2 := h.2
  unfold rwA at h2
  exact of_decide_eq_true h2 k hk (Nat.zero_le _)
theorem poly_parts {p N : Int} {xs : List Int} (h : polyB p N xs = true) : (xs.length : Int) = N ∧ ∀ i, i < xs.length → 0 ≤ xs.getD i 0 ∧ xs.getD i 0 < p := by
  unfold polyB at h
  rw [Bool.and_eq_true] at h
  refine ⟨of_decide_eq_true h.1, fun i hi => ?_⟩
  have h2 := List.all_eq_true.1 h.2 xs[i] (List.getElem_mem hi)
  rw [show xs.getD i 0 = xs[i] by simp [List.getD, hi]]
  simp [resB] at h2
  omega
theorem neg_clo (E : Thing) (a1 a2 : Option Addr) (l1 c1 l2 c2 kb : Nat) (w : World) (bK : Bk w kb #[.slice a1 l1 c1] 109)
    (KJ : Calls Tryz.prog 75 #[.slice a1 l1 c1, .slice a2 l2 c2, .func (.func 76) #[] #[]] w fun e w' => ∃ v', e = .returned v' ∧ Old w w' ∧ Ows E w' w.heap.size w'.heap.size [v']) :
    Calls Tryz.prog 74 #[.slice a2 l2 c2, .pointer (some ⟨kb, 0, none⟩)] w fun e w' => ∃ v', e = .returned v' ∧ Old w w' ∧ Ows E w' w.heap.size w'.heap.size [v'] := by
  have HK : Hid (Calls Tryz.prog 75 #[.slice a1 l1 c1, .slice a2 l2 c2, .func (.func 76) #[] #[]] w fun e w' => ∃ v', e = .returned v' ∧ Old w w' ∧ Ows E w' w.heap.size w'.heap.size [v']) := KJ
  have z0 := bK.c (i := 0) rfl
  clear KJ bK
  go_enter Tryz.func74, Tryz.ntmps74
  go_wp2_with fail
  refine HK.out.mono ?_
  rintro e w1 ⟨v', rfl, g1, o1⟩
  have HG : Hid (Old w w1 ∧ Ows E w1 w.heap.size w1.heap.size [v']) := ⟨g1, o1⟩
  clear g1 o1 HK z0
  go_wp2_with fail
  go_ret
  exact ⟨v', rfl, HG.out.1, HG.out.2⟩
theorem neg_part (Nn : Nat) (ps : List Int) (Rf : Nat → Int) (xss : List (List Int)) (uf : Nat → Option Addr) (cf : Nat → Nat) (gz gn base : Nat) (v1 v2 : Value) (w : World) (hN : 2 ≤ Nn ∧ Nn ≤ 16) (hps : 1 ≤ ps.length ∧ ps.length ≤ 6) (hpb : ∀ k, k < ps.length → 2 ≤ ps.getD k 0 ∧ ps.getD k 0 ≤ 268435456) (hrw : rwB Nn ps xss = true)
    (hz : Ows (TS 118 5 ps.length (elR Nn false ps Rf (smS ps (List.replicate Nn 0)))) w base w.heap.size [v1]) (hp : RRs w gn Nn false ps Rf uf ps.length) (hra : RowsAt w v2 ps xss uf cf) :
    Calls Tryz.prog 75 #[v1, .slice (some ⟨gn, 0, none⟩) ps.length ps.length, .func (.func 76) #[] #[]] w fun e w' => ∃ v', e = .returned v' ∧ Old w w' ∧ Ows (TS 118 5 ps.length (elR Nn false ps Rf (pairL negF ps xss xss))) w' w.heap.size w'.heap.size [v'] := by
  obtain ⟨us, hr, hus⟩ := Ows.rd (by omega) hz
  obtain ⟨hxl, hpoly⟩ := rw_parts hrw
  obtain ⟨bb, cc, _, hbb, hrow⟩ := hra
  have hr2 := hp.rd
  refine (joined_less Nn false ps Rf us v1 ps Rf false _ _ ps.length w hr (fun k hk => ?_) hr2 (fun k hk => ⟨_, _, _, rfl⟩) (by omega) (pairL negF ps xss xss) (fun k hk W g => ?_)).mono fun e w' h => ⟨_, h.1, h.2.1, h.2.2⟩
  · obtain ⟨_, x, c, e⟩ := hus k hk
    exact ⟨x, _, c, e⟩
  · obtain ⟨r1, x, c, e⟩ := hus k hk
    obtain ⟨q1, q2⟩ := poly_parts (hpoly k hk)
    have hlx : (xss.getD k []).length = Nn := by omega
    have hlz : ((smS ps (List.replicate Nn 0)).getD k []).length = Nn := by rw [smS_get _ _ _ hk, smR_len]; simp
    rw [hlz] at e
    obtain ⟨_, hcf, r2⟩ := hrow k (by omega)
    rw [e] at r1 ⊢
    have r2' : Row W (.slice (uf k) Nn Nn) (xss.getD k []) := by
      rw [hlx] at r2
      exact (r2.recap (by intro h; rw [h] at hlx; simp at hlx; omega)).old g
    have hzero : ∀ i, i < Nn → ((smS ps (List.replicate Nn 0)).getD k []).getD i 0 = 0 := fun i hi => by
      rw [smS_get _ _ _ hk, smR_get _ _ _ (by simpa using hi)]
      simp [List.getD, List.getElem?_replicate, hi]
    have hpk := hpb k hk
    show Calls _ _ #[.agg #[.int .i64 (ps.getD k 0), .int .i64 (Nn : Int), .int .i64 (Rf k), .bool false, .slice x Nn c], .agg #[.int .i64 (ps.getD k 0), .int .i64 (Nn : Int), .int .i64 (Rf k), .bool false, .slice (uf k) ((Nn : Int).toNat) ((Nn : Int).toNat)]] _ _
    rw [show ((Nn : Int).toNat) = Nn by omega]
    refine (impl_lessA (ps.getD k 0) (Rf k) (ps.getD k 0) (Rf k) Nn false false Nn _ (xss.getD k []) x (uf k) c Nn W (r1.old g) r2' hpk hN hlz hlx (fun i hi => ⟨by rw [hzero i hi]; omega, q2 i (by omega)⟩)).mono fun e w' h => ?_
    obtain ⟨g', rfl, g2, o2⟩ := h
    refine ⟨_, rfl, g2, ?_⟩
    rw [pairL_get _ _ _ _ k hk]
    have : pairR negF (ps.getD k 0) (xss.getD k []) (xss.getD k []) = pairR subF (ps.getD k 0) ((smS ps (List.replicate Nn 0)).getD k []) (xss.getD k []) := by
      unfold pairR
      rw [hlx, hlz]
      apply List.map_congr_left
      intro i hi
      have hi' : i < Nn := by simpa using hi
      unfold negF subF
      rw [hzero i hi']
      congr 1
      omega
    rw [this]
    exact o2
def negZ (ps : List Int) (xsss : List (List (List Int))) : List (List (List Int)) := xsss.map (fun xss => pairL negF ps xss xss)
theorem negZ_len (ps : List Int) (xsss : List (List (List Int))) : (negZ ps xsss).length = xsss.length := by simp [negZ]
theorem negZ_get (ps : List Int) (xsss : List (List (List Int))) (j : Nat) (hj : j < xsss.length) : (negZ ps xsss).getD j [] = pairL negF ps (xsss.getD j []) (xsss.getD j []) := by simp [negZ, List.getD, hj]
def CiA (zsss : List (List (List Int))) (ok : Bool) (w : World) (e : Ending) (w' : World) : Prop := ∃ r0, e = .returned (.tuple #[.agg r0, .bool ok]) ∧ Old w w' ∧ XC zsss w' w.heap.size w'.heap.size r0
theorem XC.nil2 {W : World} {lo hi : Nat} (h : hi ≤ W.heap.size) : XC [] W lo hi #[.slice none 0 0] := ⟨none, 0, rfl, Ows.nil h⟩
theorem ci_put {W : World} {k : Nat} {x : Value} {t : TypeId} (h : Bk W k #[x] t) (y : Value) : Bk (W.setCell ⟨k, 0, none⟩ y) k #[y] t := (heap_setCell_same W k 0 _ _ y h).trans rfl
theorem rd_true {m : Nat} {B : Nat → Bool} (h : rdB m B = true) : (2 ≤ m ∧ m ≤ 3) ∧ ∀ j, j < m → B j = true := by
  unfold rdB at h
  rw [Bool.and_eq_true] at h
  exact ⟨of_decide_eq_true h.1, of_decide_eq_true h.2⟩
set_option maxRecDepth 100000 in
set_option maxHeartbeats 4000000 in
theorem impl_NegCipher (N T E : Int) (ps : List Int) (xsss : List (List (List Int))) (v u : Value) (w : World) (lo hi : Nat) (hP : PrsW w) (hT : TabW w) (hv : Row w v ps) (hf : Fit v) (hu : Ows (TTT xsss) w lo hi [u]) (hlp : ps.length ≤ 9223372036854775807) (hl : xsss.length ≤ 1048576) (hr : ∀ r ∈ xsss, r.length ≤ 1048576 ∧ ∀ q ∈ r, q.length ≤ 1048576) (Z : List (List (List Int))) (ok : Bool) (hy : (prB N T E ps && ciB N ps xsss) = true → Z = negZ ps xsss ∧ ok = true) (hn : (prB N T E ps && ciB N ps xsss) = false → Z = [] ∧ ok = false) :
    Calls Tryz.prog 28 #[.agg #[.int .i64 N, .int .i64 T, .int .i64 E, v], .agg #[u]] w (CiA Z ok w) := by
  have HY : Hid ((prB N T E ps && ciB N ps xsss) = true → Z = negZ ps xsss ∧ ok = true) := hy
  have HNN : Hid ((prB N T E ps && ciB N ps xsss) = false → Z = [] ∧ ok = false) := hn
  clear hy hn
  obtain ⟨Rf, hRf⟩ := Rings_roots N ps
  have K1 := fun W (g : Old w W) => impl_reckonerOf N T E ps Rf v W (hP.old g) (hT.old g) (hv.old g) hf hlp hRf
  obtain ⟨a0, c0, ev⟩ := hv.slice
  obtain ⟨a1, c1, eu⟩ := hu.rowT.slice
  subst ev eu
  obtain ⟨au, cu, uf, cf, hpa⟩ : ∃ au cu uf cf, 0 < xsss.length → ∃ b, a1 = some ⟨b, 0, none⟩ ∧ PaT w b ps xsss au cu uf cf := by
    rcases Nat.eq_zero_or_pos xsss.length with h0 | h0
    · exact ⟨fun _ => none, fun _ => 0, fun _ _ => none, fun _ _ => 0, fun h => by omega⟩
    · obtain ⟨_, B, hT, _⟩ := hu
      obtain ⟨b, cap, au, cu, uf, cf, e, hp⟩ := TTT.at ps hT h0
      simp only [Value.slice.injEq, true_and] at e
      exact ⟨au, cu, uf, cf, fun _ => ⟨b, e.1, hp⟩⟩
  have HPA : Hid (0 < xsss.length → ∃ b, a1 = some ⟨b, 0, none⟩ ∧ PaT w b ps xsss au cu uf cf) := hpa
  have HR : Hid (∀ r ∈ xsss, r.length ≤ 1048576 ∧ ∀ q ∈ r, q.length ≤ 1048576) := hr
  have HA : Hid (Old w (((w.alloc (.cells #[.int .i64 N, .int .i64 T, .int .i64 E, .slice a0 ps.length c0] 28)).alloc (.cells #[.slice a1 xsss.length c1] 42)).alloc (.cells #[.slice none 0 0] 42))) := (((Old.refl w).alloc _).alloc _).alloc _
  have BB : Hid (Bk (((w.alloc (.cells #[.int .i64 N, .int .i64 T, .int .i64 E, .slice a0 ps.length c0] 28)).alloc (.cells #[.slice a1 xsss.length c1] 42)).alloc (.cells #[.slice none 0 0] 42)) (w.heap.size + 1) #[.slice a1 xsss.length c1] 42) := (Bk.new' _ _ _ (by simp)).alloc _
  have BR : Hid (Bk (((w.alloc (.cells #[.int .i64 N, .int .i64 T, .int .i64 E, .slice a0 ps.length c0] 28)).alloc (.cells #[.slice a1 xsss.length c1] 42)).alloc (.cells #[.slice none 0 0] 42)) (w.heap.size + 1 + 1) #[.slice none 0 0] 42) := Bk.new' _ _ _ (by simp)
  clear hv hf hu hP hT hRf hr hpa
  go_enter Tryz.func28, Tryz.ntmps28
  go_wp2_with fail
  refine (K1 _ HA.out).mono ?_
  rintro e w1 ⟨g1, h⟩
  have HG1 : Hid (Old w w1) := Old.trans HA.out g1
  have B1 : Hid (Bk w1 (w.heap.size + 1) #[.slice a1 xsss.length c1] 42) := BB.out.old g1
  have R1 : Hid (Bk w1 (w.heap.size + 1 + 1) #[.slice none 0 0] 42) := BR.out.old g1
  clear g1 K1 BB BR HA
  rcases h with ⟨hB, rfl⟩ | ⟨hB, g, a, l, c, hg, rfl, hrg, _⟩
  · have HB : Hid (Z = [] ∧ ok = false) := HNN.out (by rw [hB]; rfl)
    have HG2 : Hid (Old w (w1.alloc (.cells rk0 73))) := HG1.out.alloc _
    have z0 := (B1.out.alloc (.cells rk0 73)).c (i := 0) rfl
    have R2 : Hid (Bk (w1.alloc (.cells rk0 73)) (w.heap.size + 1 + 1) #[.slice none 0 0] 42) := R1.out.alloc _
    have c2 := fun W (q : Old w W) => read_nil 0 0 0 none 0 0 false none 0 0 a1 c1 W ps xsss au cu uf cf hl (fun h0 => by
      obtain ⟨b, e, hp⟩ := HPA.out h0
      exact ⟨b, e, hp.old q⟩)
    clear hB
    go_wp2_with fail
    refine (c2 _ HG2.out).mono ?_
    intro e w2 h
    obtain ⟨g2, x, rfl⟩ := h.any
    have HG3 : Hid (Old w w2) := Old.trans HG2.out g2
    have R3 : Hid (Bk w2 (w.heap.size + 1 + 1) #[.slice none 0 0] 42) := R2.out.old g2
    have y0 := R3.out.c (i := 0) rfl
    have f0 : w2.frozen? ⟨w.heap.size + 1 + 1, 0, none⟩ = false := frozen_of_row _ _ _ _ _ R3.out
    clear g2 h c2
    go_wp2_with fail
    have q0 := (ci_put R3.out (.slice none 0 0)).c (i := 0) rfl
    refine bodyPost_ret (v := .tuple #[.agg #[.slice none 0 0], .bool false]) (by simp [results, Tryz.results28, go_sem, q0]) rfl ?_
    rw [HB.out.1, HB.out.2]
    exact ⟨_, rfl, HG3.out.own (p := ⟨w.heap.size + 1 + 1, 0, none⟩) (by simp; omega) _, XC.nil2 (Nat.le_refl _)⟩
  · have hsp := prB_sp hB
    have HG2 : Hid (Old w (w1.alloc (.cells #[.int .i64 N, .int .i64 T, .int .i64 E, .slice a0 ps.length c0, .slice (some ⟨g, 0, none⟩) ps.length ps.length, .bool false, .slice a l c] 73))) := HG1.out.alloc _
    have z0 := (B1.out.alloc (.cells #[.int .i64 N, .int .i64 T, .int .i64 E, .slice a0 ps.length c0, .slice (some ⟨g, 0, none⟩) ps.length ps.length, .bool false, .slice a l c] 73)).c (i := 0) rfl
    have R2 : Hid (Bk (w1.alloc (.cells #[.int .i64 N, .int .i64 T, .int .i64 E, .slice a0 ps.length c0, .slice (some ⟨g, 0, none⟩) ps.length ps.length, .bool false, .slice a l c] 73)) (w.heap.size + 1 + 1) #[.slice none 0 0] 42) := R1.out.alloc _
    have HRG : Hid (Rgs (w1.alloc (.cells #[.int .i64 N, .int .i64 T, .int .i64 E, .slice a0 ps.length c0, .slice (some ⟨g, 0, none⟩) ps.length ps.length, .bool false, .slice a l c] 73)) g N ps Rf ps.length) := hrg.old ((Old.refl w1).alloc _)
    have BX : Hid (Bk (w1.alloc (.cells #[.int .i64 N, .int .i64 T, .int .i64 E, .slice a0 ps.length c0, .slice (some ⟨g, 0, none⟩) ps.length ps.length, .bool false, .slice a l c] 73)) w1.heap.size #[.int .i64 N, .int .i64 T, .int .i64 E, .slice a0 ps.length c0, .slice (some ⟨g, 0, none⟩) ps.length ps.length, .bool false, .slice a l c] 73) := Bk.new' w1 _ _ rfl
    have hs1 : w.heap.size + 3 ≤ w1.heap.size := by have := R1.out.lt; omega
    have c2 := fun W (q : Old w W) (hr : Rgs W g N ps Rf ps.length) => read_good N T E a0 ps.length c0 g false a l c a1 c1 W ps Rf xsss au cu uf cf hl HR.out (fun h0 => by
      obtain ⟨b, e, hp⟩ := HPA.out h0
      exact ⟨b, e, hp.old q⟩) hr hsp
    have HBB : Hid (prB N T E ps = true) := hB
    clear hB hrg hg
    go_wp2_with fail
    refine (c2 _ HG2.out HRG.out).mono ?_
    rintro e w2 ⟨g2, h⟩
    have HG3 : Hid (Old w w2) := Old.trans HG2.out g2
    have R3 : Hid (Bk w2 (w.heap.size + 1 + 1) #[.slice none 0 0] 42) := R2.out.old g2
    have BX3 : Hid (Bk w2 w1.heap.size #[.int .i64 N, .int .i64 T, .int .i64 E, .slice a0 ps.length c0, .slice (some ⟨g, 0, none⟩) ps.length ps.length, .bool false, .slice a l c] 73) := BX.out.old g2
    have HRG3 : Hid (Rgs w2 g N ps Rf ps.length) := HRG.out.old g2
    have y0 := R3.out.c (i := 0) rfl
    have f0 : w2.frozen? ⟨w.heap.size + 1 + 1, 0, none⟩ = false := frozen_of_row _ _ _ _ _ R3.out
    clear g2 c2 BX HRG R2 HG2 R1 HG1 z0 B1
    rcases h with ⟨hC, rfl⟩ | h
    · have HB : Hid (Z = [] ∧ ok = false) := HNN.out (by rw [HBB.out, show ciB N ps xsss = false from hC]; rfl)
      clear hC
      go_wp2_with fail
      have q0 := (ci_put R3.out (.slice none 0 0)).c (i := 0) rfl
      refine bodyPost_ret (v := .tuple #[.agg #[.slice none 0 0], .bool false]) (by simp [results, Tryz.results28, go_sem, q0]) rfl ?_
      rw [HB.out.1, HB.out.2]
      exact ⟨_, rfl, HG3.out.own (p := ⟨w.heap.size + 1 + 1, 0, none⟩) (by simp; omega) _, XC.nil2 (Nat.le_refl _)⟩
    · obtain ⟨hz4, hbb, _⟩ := sp_ring hsp
      obtain ⟨Nn, rfl⟩ : ∃ Nn : Nat, N = (Nn : Int) := ⟨N.toNat, by omega⟩
      have hNn : 2 ≤ Nn ∧ Nn ≤ 16 := by omega
      have hps := (bas_at hbb).1
      have hpb : ∀ k, k < ps.length → 2 ≤ ps.getD k 0 ∧ ps.getD k 0 ≤ 268435456 := fun k hk => pm_bd ((bas_at hbb).2 k hk)
      have cz := fun W (hr : Rgs W g Nn ps Rf ps.length) => impl_noughtRows Nn ps Rf g W hr (by omega) (by omega) (fun k hk => by have := hpb k hk; omega)
      have x4 := BX3.out.c (i := 4) rfl
      have HPB : Hid (∀ k, k < ps.length → 2 ≤ ps.getD k 0 ∧ ps.getD k 0 ≤ 268435456) := hpb
      have HEND : Hid (ciB Nn ps xsss = true → ∀ w' r0, Old w w' → XC (negZ ps xsss) w' w.heap.size w'.heap.size r0 → CiA Z ok w (.returned (.tuple #[.agg r0, .bool true])) w') := fun hC w' r0 h1 h2 => by
        obtain ⟨e1, e2⟩ := HY.out (by rw [HBB.out, hC]; rfl)
        rw [e1, e2]
        exact ⟨r0, rfl, h1, h2⟩
      have HCJ : Hid (∀ (w3 : World) (gz : Nat) (kb : Nat), Old w2 w3 → Ows (TS 118 5 ps.length (elR Nn false ps Rf (smS ps (List.replicate Nn 0)))) w3 w2.heap.size w3.heap.size [.slice (some ⟨gz, 0, none⟩) ps.length ps.length] → Bk w3 kb #[.slice (some ⟨gz, 0, none⟩) ps.length ps.length] 109 → ∀ j, j < xsss.length → rwB Nn ps (xsss.getD j []) = true → ∀ gp, PhG (w1.heap.size + 1) Nn ps Rf uf j w2 gp → ∀ W, Old w3 W → Calls Tryz.prog 74 #[.slice gp ps.length ps.length, .pointer (some ⟨kb, 0, none⟩)] W fun e w' => ∃ v', e = .returned v' ∧ Old W w' ∧ Ows (TS 118 5 ps.length (elR Nn false ps Rf ((negZ ps xsss).getD j []))) w' W.heap.size w'.heap.size [v']) := fun w3 gz kb q3 oz bk j hj hrw gp hph W qW => by
        obtain ⟨gn, rfl, _, hrr⟩ := hph
        obtain ⟨b, _, hp⟩ := HPA.out (by omega)
        have hxl := (rw_parts hrw).1
        have hat := (hp.2 j hj).2 (by omega)
        rw [negZ_get ps xsss j hj]
        have q4 := Old.trans q3 qW
        refine neg_clo _ _ _ _ _ _ _ kb W (bk.old qW) ?_
        refine neg_part Nn ps Rf (xsss.getD j []) (uf j) (cf j) gz gn w2.heap.size _ (.slice (au j) (xsss.getD j []).length (cu j)) W hNn hps HPB.out hrw ?_ (hrr.old q4) (hat.old (Old.trans HG3.out q4))
        exact (Ows.old (good_TS _ _ _ (good_elR _ _ _ _ _)) oz qW).low (Nat.le_refl _) qW.size (Nat.le_refl _)
      have HZL : Hid (∀ j, j < (negZ ps xsss).length → ((negZ ps xsss).getD j []).length = ps.length) := fun j hj => by
        rw [negZ_len] at hj
        rw [negZ_get ps xsss j hj, pairL_len]
      have hnl := negZ_len ps xsss
      have HPS : Hid (1 ≤ ps.length ∧ ps.length ≤ 1000) := ⟨hps.1, by omega⟩
      clear hz4 hbb hpb hsp HPA HR HBB
      rcases h with ⟨hC, hm, g0, g1, rfl, p0, p1⟩ | ⟨hC, hm, g0, g1, g2, rfl, p0, p1, p2⟩
      · have HCI : Hid (ciB Nn ps xsss = true) := hC
        have HBJ : Hid (∀ j, j < 2 → rwB Nn ps (xsss.getD j []) = true) := fun j hj => (rd_true hC).2 j (by omega)
        have HPH : Hid (∀ j, j < 2 → PhG (w1.heap.size + 1) Nn ps Rf uf j w2 ((fun j => if j = 0 then g0 else g1) j)) := fun j hj => by
          rcases (show j = 0 ∨ j = 1 by omega) with rfl | rfl
          · simpa using p0
          · simpa using p1
        have HM : Hid (xsss.length = 2) := hm
        clear hC hm p0 p1
        go_wp2_with fail
        refine (cz _ HRG3.out).mono ?_
        rintro e w3 ⟨gz, hgz, rfl, g3, o3⟩
        have HG4 : Hid (Old w2 (w3.alloc (.cells #[.slice (some ⟨gz, 0, none⟩) ps.length ps.length] 109))) := g3.alloc _
        have R4 : Hid (Bk (w3.alloc (.cells #[.slice (some ⟨gz, 0, none⟩) ps.length ps.length] 109)) (w.heap.size + 1 + 1) #[.slice none 0 0] 42) := R3.out.old HG4.out
        have cc := changed_neg2 Nn false ps Rf (negZ ps xsss) ps.length (fun j => if j = 0 then g0 else g1) w3.heap.size (w3.alloc (.cells #[.slice (some ⟨gz, 0, none⟩) ps.length ps.length] 109)) HPS.out (hnl.trans HM.out) HZL.out (fun j hj W q => HCJ.out (w3.alloc (.cells #[.slice (some ⟨gz, 0, none⟩) ps.length ps.length] 109)) gz w3.heap.size HG4.out ((Ows.old (good_TS _ _ _ (good_elR _ _ _ _ _)) o3 ((Old.refl w3).alloc _)).low (Nat.le_refl _) (by simp) (Nat.le_refl _)) (Bk.new' w3 _ _ rfl) j (by rw [HM.out]; exact hj) (HBJ.out j hj) _ (HPH.out j hj) W q)
        have HCC : Hid (Calls Tryz.prog 73 #[.iface 125 (.agg #[.slice g0 ps.length ps.length, .slice g1 ps.length ps.length]), .func (.func 74) #[] #[.pointer (some ⟨w3.heap.size, 0, none⟩)]] (w3.alloc (.cells #[.slice (some ⟨gz, 0, none⟩) ps.length ps.length] 109)) fun e w' => ∃ r0, e = .returned (.agg r0) ∧ Old (w3.alloc (.cells #[.slice (some ⟨gz, 0, none⟩) ps.length ps.length] 109)) w' ∧ XC (negZ ps xsss) w' (w3.heap.size + 1) w'.heap.size r0) := by
          have h1 : (w3.alloc (.cells #[.slice (some ⟨gz, 0, none⟩) ps.length ps.length] 109)).heap.size = w3.heap.size + 1 := by simp
          rw [h1] at cc
          exact cc
        have hs3 : w2.heap.size ≤ w3.heap.size := g3.size
        have hs2 := R3.out.lt
        clear cc g3 o3 cz hnl
        go_wp2_with fail
        refine HCC.out.mono ?_
        rintro e w5 ⟨r0, rfl, g5, x5⟩
        obtain ⟨a5, c5, rfl⟩ := shape_XC _ _ _ _ x5
        have HG6 : Hid (Old w w5) := Old.trans HG3.out (Old.trans HG4.out g5)
        have R5 : Hid (Bk w5 (w.heap.size + 1 + 1) #[.slice none 0 0] 42) := R4.out.old g5
        have HX5 : Hid (XC (negZ ps xsss) w5 (w3.heap.size + 1) w5.heap.size #[.slice a5 (negZ ps xsss).length c5]) := x5
        clear y0 f0
        have y0 := R5.out.c (i := 0) rfl
        have f0 : w5.frozen? ⟨w.heap.size + 1 + 1, 0, none⟩ = false := frozen_of_row _ _ _ _ _ R5.out
        clear g5 x5 HCC
        go_wp2_with fail
        have q0 := (ci_put R5.out (.slice a5 (negZ ps xsss).length c5)).c (i := 0) rfl
        refine bodyPost_ret (v := .tuple #[.agg #[.slice a5 (negZ ps xsss).length c5], .bool true]) (by simp [results, Tryz.results28, go_sem, q0]) rfl (HEND.out HCI.out _ _ (HG6.out.own (p := ⟨w.heap.size + 1 + 1, 0, none⟩) (by simp; omega) _) ?_)
        obtain ⟨a6, c6, e6, o6⟩ := HX5.out
        simp at e6
        obtain ⟨rfl, rfl⟩ := e6
        refine ⟨a5, c5, rfl, ?_⟩
        have h2 := o6.putT (k := w.heap.size + 1 + 1) (j := 0) (x := .slice a5 (negZ ps xsss).length c5) (.inl (by omega))
        exact h2.low (lo' := w.heap.size) (by omega) (by simp) (Nat.le_refl _)
      · have HCI : Hid (ciB Nn ps xsss = true) := hC
        have HBJ : Hid (∀ j, j < 3 → rwB Nn ps (xsss.getD j []) = true) := fun j hj => (rd_true hC).2 j (by omega)
        have HPH : Hid (∀ j, j < 3 → PhG (w1.heap.size + 1) Nn ps Rf uf j w2 ((fun j => if j = 0 then g0 else if j = 1 then g1 else g2) j)) := fun j hj => by
          rcases (show j = 0 ∨ j = 1 ∨ j = 2 by omega) with rfl | rfl | rfl
          · simpa using p0
          · simpa using p1
          · simpa using p2
        have HM : Hid (xsss.length = 3) := hm
        clear hC hm p0 p1 p2
        go_wp2_with fail
        refine (cz _ HRG3.out).mono ?_
        rintro e w3 ⟨gz, hgz, rfl, g3, o3⟩
        have HG4 : Hid (Old w2 (w3.alloc (.cells #[.slice (some ⟨gz, 0, none⟩) ps.length ps.length] 109))) := g3.alloc _
        have R4 : Hid (Bk (w3.alloc (.cells #[.slice (some ⟨gz, 0, none⟩) ps.length ps.length] 109)) (w.heap.size + 1 + 1) #[.slice none 0 0] 42) := R3.out.old HG4.out
        have cc := changed_neg3 Nn false ps Rf (negZ ps xsss) ps.length (fun j => if j = 0 then g0 else if j = 1 then g1 else g2) w3.heap.size (w3.alloc (.cells #[.slice (some ⟨gz, 0, none⟩) ps.length ps.length] 109)) HPS.out (hnl.trans HM.out) HZL.out (fun j hj W q => HCJ.out (w3.alloc (.cells #[.slice (some ⟨gz, 0, none⟩) ps.length ps.length] 109)) gz w3.heap.size HG4.out ((Ows.old (good_TS _ _ _ (good_elR _ _ _ _ _)) o3 ((Old.refl w3).alloc _)).low (Nat.le_refl _) (by simp) (Nat.le_refl _)) (Bk.new' w3 _ _ rfl) j (by rw [HM.out]; exact hj) (HBJ.out j hj) _ (HPH.out j hj) W q)
        have HCC : Hid (Calls Tryz.prog 73 #[.iface 167 (.agg #[.slice g0 ps.length ps.length, .slice g1 ps.length ps.length, .slice g2 ps.length ps.length]), .func (.func 74) #[] #[.pointer (some ⟨w3.heap.size, 0, none⟩)]] (w3.alloc (.cells #[.slice (some ⟨gz, 0, none⟩) ps.length ps.length] 109)) fun e w' => ∃ r0, e = .returned (.agg r0) ∧ Old (w3.alloc (.cells #[.slice (some ⟨gz, 0, none⟩) ps.length ps.length] 109)) w' ∧ XC (negZ ps xsss) w' (w3.heap.size + 1) w'.heap.size r0) := by
          have h1 : (w3.alloc (.cells #[.slice (some ⟨gz, 0, none⟩) ps.length ps.length] 109)).heap.size = w3.heap.size + 1 := by simp
          rw [h1] at cc
          exact cc
        have hs3 : w2.heap.size ≤ w3.heap.size := g3.size
        have hs2 := R3.out.lt
        clear cc g3 o3 cz hnl
        go_wp2_with fail
        refine HCC.out.mono ?_
        rintro e w5 ⟨r0, rfl, g5, x5⟩
        obtain ⟨a5, c5, rfl⟩ := shape_XC _ _ _ _ x5
        have HG6 : Hid (Old w w5) := Old.trans HG3.out (Old.trans HG4.out g5)
        have R5 : Hid (Bk w5 (w.heap.size + 1 + 1) #[.slice none 0 0] 42) := R4.out.old g5
        have HX5 : Hid (XC (negZ ps xsss) w5 (w3.heap.size + 1) w5.heap.size #[.slice a5 (negZ ps xsss).length c5]) := x5
        clear y0 f0
        have y0 := R5.out.c (i := 0) rfl
        have f0 : w5.frozen? ⟨w.heap.size + 1 + 1, 0, none⟩ = false := frozen_of_row _ _ _ _ _ R5.out
        clear g5 x5 HCC
        go_wp2_with fail
        have q0 := (ci_put R5.out (.slice a5 (negZ ps xsss).length c5)).c (i := 0) rfl
        refine bodyPost_ret (v := .tuple #[.agg #[.slice a5 (negZ ps xsss).length c5], .bool true]) (by simp [results, Tryz.results28, go_sem, q0]) rfl (HEND.out HCI.out _ _ (HG6.out.own (p := ⟨w.heap.size + 1 + 1, 0, none⟩) (by simp; omega) _) ?_)
        obtain ⟨a6, c6, e6, o6⟩ := HX5.out
        simp at e6
        obtain ⟨rfl, rfl⟩ := e6
        refine ⟨a5, c5, rfl, ?_⟩
        have h2 := o6.putT (k := w.heap.size + 1 + 1) (j := 0) (x := .slice a5 (negZ ps xsss).length c5) (.inl (by omega))
        exact h2.low (lo' := w.heap.size) (by omega) (by simp) (Nat.le_refl _)
end Go.Proofs.YtakleianimcmdaaGreatDoor
