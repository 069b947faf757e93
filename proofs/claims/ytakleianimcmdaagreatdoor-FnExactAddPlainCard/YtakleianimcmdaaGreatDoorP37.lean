/- Proved: several texts in one: what each proves is said ahead of it. -/
import Derived.Test.YtakleianimcmdaaGreatDoorP29
import Derived.Test.YtakleianimcmdaaGreatDoorP36
import Derived.Test.YtakleianimcmdaaGreatDoorP21
import Derived.Test.YtakleianimcmdaaGreatDoorP30
import Derived.Test.YtakleianimcmdaaGreatDoorP24
import Derived.Test.YtakleianimcmdaaGreatDoorSml
import Derived.Test.YtakleianimcmdaaGreatDoorP13
import Derived.Test.YtakleianimcmdaaGreatDoorP25
import Derived.Test.YtakleianimcmdaaGreatDoorP26
import Derived.Test.YtakleianimcmdaaGreatDoorP23
import Derived.Test.YtakleianimcmdaaGreatDoorP02
import Derived.Test.YtakleianimcmdaaGreatDoorLawAddPlain
import Derived.Test.YtakleianimcmdaaGreatDoorP27
import Derived.Test.YtakleianimcmdaaGreatDoorKCb
/- Proved: the contract of the program's lifted. -/
namespace Go.Proofs.YtakleianimcmdaaGreatDoor
open Go.ChangeShapes Go.WideShapes Go.ChangeAt Go.RowKit
open M2
set_option linter.unusedVariables false
set_option linter.unusedSimpArgs false
theorem nat_toI9 (xs : List Nat) : nat (toI xs) = xs := by
  apply List.ext_getElem
  · simp [nat, toI]
  · intro i h1 h2
    simp [nat, toI]
theorem dig_good9 {n : Nat} (hl : cnt n ≤ 40) : Good false (toI (dig n)) := by
  have hn := dig_nrm n
  refine ⟨by rw [toI_len]; exact hl, (fun h => by cases h.2), ?_⟩
  intro j hj
  rw [toI_len] at hj
  have hm : (dig n).getD j 0 ∈ dig n := by simp [List.getD, hj]
  have hb := hn.1 _ hm
  unfold LB at hb
  refine ⟨?_, ?_⟩
  · rw [toI_get]
    omega
  · rw [toI_get, toI_len]
    rintro ⟨h0, h1⟩
    have hne : dig n ≠ [] := by intro e; rw [e] at hj; simp at hj
    apply hn.2 hne
    rw [List.getLast_eq_getElem]
    have h2 : (dig n).getD j 0 = 0 := by omega
    have e : (dig n).length - 1 = j := by omega
    simp only [e]
    rw [← h2]
    simp [List.getD, hj]
theorem cnt_le9 {n m k : Nat} (h : n ≤ m) (hm : cnt m ≤ k) : cnt n ≤ k := by
  refine dig_len_le (Nat.lt_of_le_of_lt h (Nat.lt_of_lt_of_le (cnt_lt m) (Nat.pow_le_pow_right (by decide) hm)))
def dmF (q T : Nat) (p : Int) : Int := ((q / T : Nat) : Int) % p
theorem modW_q {q T : Nat} (hc : cnt q ≤ 40) {p : Int} (hp : 2 ≤ p ∧ p ≤ 268435456) : modW false (toI (dig (q / T))) p = dmF q T p := by
  unfold modW
  rw [if_pos ⟨dig_good9 (cnt_le9 (Nat.div_le_self q T) hc), hp⟩, nat_toI9]
  simp [sv, val_dig, dmF]
theorem impl_lifted (Nn T : Nat) (E : Int) (ps ss : List Int) (q : Nat) (Rf : Nat → Int) (a3 : Option Addr) (l3 c3 gr : Nat) (a6 : Option Addr) (l6 c6 : Nat) (v : Value) (w : World) (hps : 1 ≤ ps.length ∧ ps.length ≤ 6) (hN : 2 ≤ Nn ∧ Nn ≤ 16) (hT : 1 ≤ T ∧ T ≤ 4611686018427387904) (hl : ss.length = Nn) (hp : ∀ k, k < ps.length → 2 ≤ ps.getD k 0 ∧ ps.getD k 0 ≤ 268435456)
    (hr : Rgs w gr Nn ps Rf ps.length) (hv : Row w v ss) (hs : ∀ i, i < ss.length → -9223372036854775808 ≤ ss.getD i 0 ∧ ss.getD i 0 ≤ 9223372036854775807) (hq : cnt q ≤ 40) (hrq : Row w (.slice a6 l6 c6) (toI (dig q))) :
    Calls Tryz.prog 80 #[.agg #[.int .i64 Nn, .int .i64 T, .int .i64 E, .slice a3 l3 c3, .slice (some ⟨gr, 0, none⟩) ps.length ps.length, .bool false, .slice a6 l6 c6], v] w fun e w' => ∃ g, w.heap.size ≤ g ∧ e = .returned (.slice (some ⟨g, 0, none⟩) ps.length ps.length) ∧ Old w w' ∧ Ows (TS 118 5 ps.length (elR Nn false ps Rf (lfL (dmF q T) ps ss))) w' w.heap.size w'.heap.size [.slice (some ⟨g, 0, none⟩) ps.length ps.length] := by
  have hT0 : (0 : Nat) < T := by omega
  have edg : dg (T : Int) = dig T := by simp [dg]
  have hcT : cnt T ≤ 40 := by
    refine dig_len_le (Nat.lt_of_le_of_lt hT.2 ?_)
    unfold LB
    decide
  refine lifted_of Nn T E ps ss (toI (dig T)) (toI (dig (q / T))) Rf (dmF q T) (toI (dig T)).length (toI (dig (q / T))).length a3 l3 c3 gr a6 l6 c6 v w hps hN hl hp hr hv hs (fun W g => ?_) (fun W a c g hrow => ?_) (fun W a c k hk hrow => ?_) (fun k hk => ?_)
  · refine (impl_of T W (by omega) (by omega)).mono fun e w' h => ?_
    obtain ⟨v', rfl, g', o'⟩ := h
    rw [edg] at o'
    obtain ⟨a, c, rfl⟩ := (Own.row o').slice
    have e0 : ng (T : Int) = false := decide_eq_false (by omega)
    rw [e0]
    exact ⟨_, rfl, g', a, c, rfl, o'⟩
  · have h0 : (toI (dig T)).length ≠ 0 := by
      rw [toI_len]
      intro e
      have h1 : dig T = [] := List.length_eq_zero_iff.1 e
      have h2 := val_dig T
      rw [h1] at h2
      simp [val] at h2
      omega
    refine (impl_div_good false (toI (dig q)) (toI (dig T)) _ _ W (hrq.old g) hrow (dig_good9 hq) (dig_good9 hcT) h0).mono fun e w' h => ?_
    obtain ⟨v1, v2, rfl, g', o1, o2, _⟩ := h
    have e1 : sv false (nat (toI (dig q))) / (val (nat (toI (dig T))) : Int) = ((q / T : Nat) : Int) := by
      rw [nat_toI9, nat_toI9, val_dig]
      simp [sv, val_dig]
    rw [e1] at o1 ⊢
    have e2 : ng ((q / T : Nat) : Int) = false := decide_eq_false (by have := Int.natCast_nonneg (q / T); exact Int.not_lt.2 this)
    have e3 : dg ((q / T : Nat) : Int) = dig (q / T) := by simp only [dg, Int.natAbs_natCast]
    rw [e3] at o1
    rw [e2]
    obtain ⟨a1, c1, rfl⟩ := (Own.row o1).slice
    obtain ⟨a2, c2, rfl⟩ := (Own.row o2).slice
    exact ⟨_, rfl, g', a1, c1, a2, _, c2, rfl, o1⟩
  · have h1 := impl_mod false (toI (dig (q / T))) (ps.getD k 0) _ W hrow (by rw [toI_len]; have := cnt_le9 (Nat.div_le_self q T) hq; unfold cnt at this; omega)
    rw [modW_q hq (hp k hk)] at h1
    exact h1
  · have hk' := hp k hk
    unfold dmF
    have g1 := Int.emod_nonneg ((q / T : Nat) : Int) (show ps.getD k 0 ≠ 0 by omega)
    have g2 := Int.emod_lt_of_pos ((q / T : Nat) : Int) (show 0 < ps.getD k 0 by omega)
    omega
end Go.Proofs.YtakleianimcmdaaGreatDoor
/- Proved: the contract of the program's AddPlain. -/
namespace Go.Proofs.YtakleianimcmdaaGreatDoor
open Go.ChangeShapes Go.WideShapes Go.ChangeAt Go.RowKit
set_option linter.unusedVariables false
set_option linter.unusedSimpArgs false
set_option maxRecDepth 100000 in
set_option maxHeartbeats 4000000 in
theorem impl_AddPlain (N T E : Int) (ps : List Int) (xsss : List (List (List Int))) (ss : List Int) (v u u2 : Value) (w : World) (lo hi : Nat) (hP : PrsW w) (hT : TabW w) (hv : Row w v ps) (hf : Fit v) (hu : Ows (TTT xsss) w lo hi [u]) (hu2 : Row w u2 ss) (hl2 : ss.length ≤ 9223372036854775807) (hlp : ps.length ≤ 9223372036854775807) (hl : xsss.length ≤ 1048576) (hr : ∀ r ∈ xsss, r.length ≤ 1048576 ∧ ∀ q ∈ r, q.length ≤ 1048576) (Z : List (List (List Int))) (ok : Bool) (hy : (prB N T E ps && ciB N ps xsss && polyB T N ss) = true → Z = sumZ ps xsss (lfZ (dmF (prodN (ps.map Int.toNat)) T.toNat) N.toNat ps ss) ∧ ok = true) (hn : (prB N T E ps && ciB N ps xsss && polyB T N ss) = false → Z = [] ∧ ok = false) :
    Calls Tryz.prog 31 #[.agg #[.int .i64 N, .int .i64 T, .int .i64 E, v], .agg #[u], u2] w (CiA Z ok w) := by
  have HY : Hid ((prB N T E ps && ciB N ps xsss && polyB T N ss) = true → Z = sumZ ps xsss (lfZ (dmF (prodN (ps.map Int.toNat)) T.toNat) N.toNat ps ss) ∧ ok = true) := hy
  have HNN : Hid ((prB N T E ps && ciB N ps xsss && polyB T N ss) = false → Z = [] ∧ ok = false) := hn
  clear hy hn
  obtain ⟨Rf, hRf⟩ := Rings_roots N ps
  have HU2 : Hid (Row w u2 ss) := hu2
  have HTW : Hid (TabW w) := hT
  obtain ⟨a2, c2', eu2⟩ := hu2.slice
  have K1 := fun W (g : Old w W) => impl_reckonerOf N T E ps Rf v W (hP.old g) (hT.old g) (hv.old g) hf hlp hRf
  obtain ⟨a0, c0, ev⟩ := hv.slice
  obtain ⟨a1, c1, eu⟩ := hu.rowT.slice
  subst ev eu eu2
  obtain ⟨au, cu, uf, cf, hpa⟩ : ∃ au cu uf cf, 0 < xsss.length → ∃ b, a1 = some ⟨b, 0, none⟩ ∧ PaT w b ps xsss au cu uf cf := by
    rcases Nat.eq_zero_or_pos xsss.length with h0 | h0
    · exact ⟨fun _ => none, fun _ => 0, fun _ _ => none, fun _ _ => 0, fun h => by omega⟩
    · obtain ⟨_, B, hT, _⟩ := hu
      obtain ⟨b, cap, au, cu, uf, cf, e, hp⟩ := TTT.at ps hT h0
      simp only [Value.slice.injEq, true_and] at e
      exact ⟨au, cu, uf, cf, fun _ => ⟨b, e.1, hp⟩⟩
  have HPA : Hid (0 < xsss.length → ∃ b, a1 = some ⟨b, 0, none⟩ ∧ PaT w b ps xsss au cu uf cf) := hpa
  have HR : Hid (∀ r ∈ xsss, r.length ≤ 1048576 ∧ ∀ q ∈ r, q.length ≤ 1048576) := hr
  have HA : Hid (Old w (((w.alloc (.cells #[.int .i64 N, .int .i64 T, .int .i64 E, .slice a0 ps.length c0] 28)).alloc (.cells #[.slice a1 xsss.length c1] 42)).alloc (.cells #[.slice none 0 0] 42))) := (((Old.refl w).alloc _).alloc _).alloc _
  have BB : Hid (Bk (((w.alloc (.cells #[.int .i64 N, .int .i64 T, .int .i64 E, .slice a0 ps.length c0] 28)).alloc (.cells #[.slice a1 xsss.length c1] 42)).alloc (.cells #[.slice none 0 0] 42)) (w.heap.size + 1) #[.slice a1 xsss.length c1] 42) := (Bk.new' _ _ _ (by simp)).alloc _
  have BR : Hid (Bk (((w.alloc (.cells #[.int .i64 N, .int .i64 T, .int .i64 E, .slice a0 ps.length c0] 28)).alloc (.cells #[.slice a1 xsss.length c1] 42)).alloc (.cells #[.slice none 0 0] 42)) (w.heap.size + 1 + 1) #[.slice none 0 0] 42) := Bk.new' _ _ _ (by simp)
  clear hv hf hu hP hT hRf hr hpa hu2
  go_enter Tryz.func31, Tryz.ntmps31
  go_wp2_with fail
  refine (K1 _ HA.out).mono ?_
  rintro e w1 ⟨g1, h⟩
  have HG1 : Hid (Old w w1) := Old.trans HA.out g1
  have B1 : Hid (Bk w1 (w.heap.size + 1) #[.slice a1 xsss.length c1] 42) := BB.out.old g1
  have R1 : Hid (Bk w1 (w.heap.size + 1 + 1) #[.slice none 0 0] 42) := BR.out.old g1
  clear g1 K1 BB BR HA
  rcases h with ⟨hB, rfl⟩ | ⟨hB, g, a, l, c, hg, rfl, hrg, P, hPz, hbs, hll, hoq⟩
  · have HB : Hid (Z = [] ∧ ok = false) := HNN.out (by rw [hB]; rfl)
    have HG2 : Hid (Old w (w1.alloc (.cells rk0 73))) := HG1.out.alloc _
    have z0 := (B1.out.alloc (.cells rk0 73)).c (i := 0) rfl
    have R2 : Hid (Bk (w1.alloc (.cells rk0 73)) (w.heap.size + 1 + 1) #[.slice none 0 0] 42) := R1.out.alloc _
    have c2 := fun W (q : Old w W) => read_nil 0 0 0 none 0 0 false none 0 0 a1 c1 W ps xsss au cu uf cf hl (fun h0 => by
      obtain ⟨b, e, hp⟩ := HPA.out h0
      exact ⟨b, e, hp.old q⟩)
    clear hB
    go_wp2_with fail
    refine (c2 _ HG2.out).mono ?_
    intro e w2 h
    obtain ⟨g2, x, rfl⟩ := h.any
    have HG3 : Hid (Old w w2) := Old.trans HG2.out g2
    have R3 : Hid (Bk w2 (w.heap.size + 1 + 1) #[.slice none 0 0] 42) := R2.out.old g2
    have y0 := R3.out.c (i := 0) rfl
    have f0 : w2.frozen? ⟨w.heap.size + 1 + 1, 0, none⟩ = false := frozen_of_row _ _ _ _ _ R3.out
    clear g2 h c2
    go_wp2_with fail
    have q0 := (ci_put R3.out (.slice none 0 0)).c (i := 0) rfl
    refine bodyPost_ret (v := .tuple #[.agg #[.slice none 0 0], .bool false]) (by simp [results, Tryz.results31, go_sem, q0]) rfl ?_
    rw [HB.out.1, HB.out.2]
    exact ⟨_, rfl, HG3.out.own (p := ⟨w.heap.size + 1 + 1, 0, none⟩) (by simp; omega) _, XC.nil2 (Nat.le_refl _)⟩
  · have hsp := prB_sp hB
    have hq7 := hbs.cnt
    have hrq : Row w1 (.slice a l c) (toI (M2.dig (prodN (ps.map Int.toNat)))) := by
      rw [show ps.map Int.toNat = P by rw [hPz]; exact toZ_bk P]
      exact Own.row hoq
    have hqc : M2.cnt (prodN (ps.map Int.toNat)) ≤ 7 := by
      rw [show ps.map Int.toNat = P by rw [hPz]; exact toZ_bk P]
      exact hq7
    have HRQ : Hid (Row w1 (.slice a l c) (toI (M2.dig (prodN (ps.map Int.toNat))))) := hrq
    have HW1 : Hid (Old w1 (w1.alloc (.cells #[.int .i64 N, .int .i64 T, .int .i64 E, .slice a0 ps.length c0, .slice (some ⟨g, 0, none⟩) ps.length ps.length, .bool false, .slice a l c] 73))) := (Old.refl w1).alloc _
    clear hPz hbs hll hoq hq7 hrq
    have HG2 : Hid (Old w (w1.alloc (.cells #[.int .i64 N, .int .i64 T, .int .i64 E, .slice a0 ps.length c0, .slice (some ⟨g, 0, none⟩) ps.length ps.length, .bool false, .slice a l c] 73))) := HG1.out.alloc _
    have z0 := (B1.out.alloc (.cells #[.int .i64 N, .int .i64 T, .int .i64 E, .slice a0 ps.length c0, .slice (some ⟨g, 0, none⟩) ps.length ps.length, .bool false, .slice a l c] 73)).c (i := 0) rfl
    have R2 : Hid (Bk (w1.alloc (.cells #[.int .i64 N, .int .i64 T, .int .i64 E, .slice a0 ps.length c0, .slice (some ⟨g, 0, none⟩) ps.length ps.length, .bool false, .slice a l c] 73)) (w.heap.size + 1 + 1) #[.slice none 0 0] 42) := R1.out.alloc _
    have HRG : Hid (Rgs (w1.alloc (.cells #[.int .i64 N, .int .i64 T, .int .i64 E, .slice a0 ps.length c0, .slice (some ⟨g, 0, none⟩) ps.length ps.length, .bool false, .slice a l c] 73)) g N ps Rf ps.length) := hrg.old ((Old.refl w1).alloc _)
    have BX : Hid (Bk (w1.alloc (.cells #[.int .i64 N, .int .i64 T, .int .i64 E, .slice a0 ps.length c0, .slice (some ⟨g, 0, none⟩) ps.length ps.length, .bool false, .slice a l c] 73)) w1.heap.size #[.int .i64 N, .int .i64 T, .int .i64 E, .slice a0 ps.length c0, .slice (some ⟨g, 0, none⟩) ps.length ps.length, .bool false, .slice a l c] 73) := Bk.new' w1 _ _ rfl
    have hs1 : w.heap.size + 3 ≤ w1.heap.size := by have := R1.out.lt; omega
    have c2 := fun W (q : Old w W) (hr : Rgs W g N ps Rf ps.length) => read_good N T E a0 ps.length c0 g false a l c a1 c1 W ps Rf xsss au cu uf cf hl HR.out (fun h0 => by
      obtain ⟨b, e, hp⟩ := HPA.out h0
      exact ⟨b, e, hp.old q⟩) hr hsp
    have HBB : Hid (prB N T E ps = true) := hB
    clear hB hrg hg
    go_wp2_with fail
    refine (c2 _ HG2.out HRG.out).mono ?_
    rintro e w2 ⟨g2, h⟩
    have HG3 : Hid (Old w w2) := Old.trans HG2.out g2
    have R3 : Hid (Bk w2 (w.heap.size + 1 + 1) #[.slice none 0 0] 42) := R2.out.old g2
    have HRQ3 : Hid (Row w2 (.slice a l c) (toI (M2.dig (prodN (ps.map Int.toNat))))) := HRQ.out.old (Old.trans HW1.out g2)
    have BX3 : Hid (Bk w2 w1.heap.size #[.int .i64 N, .int .i64 T, .int .i64 E, .slice a0 ps.length c0, .slice (some ⟨g, 0, none⟩) ps.length ps.length, .bool false, .slice a l c] 73) := BX.out.old g2
    have HRG3 : Hid (Rgs w2 g N ps Rf ps.length) := HRG.out.old g2
    have y0 := R3.out.c (i := 0) rfl
    have f0 : w2.frozen? ⟨w.heap.size + 1 + 1, 0, none⟩ = false := frozen_of_row _ _ _ _ _ R3.out
    clear g2 c2 BX HRG HRQ HW1 R2 HG2 R1 HG1 z0 B1
    rcases h with ⟨hC, rfl⟩ | h
    · have HB : Hid (Z = [] ∧ ok = false) := HNN.out (by rw [HBB.out, show ciB N ps xsss = false from hC]; rfl)
      clear hC
      go_wp2_with fail
      have q0 := (ci_put R3.out (.slice none 0 0)).c (i := 0) rfl
      refine bodyPost_ret (v := .tuple #[.agg #[.slice none 0 0], .bool false]) (by simp [results, Tryz.results31, go_sem, q0]) rfl ?_
      rw [HB.out.1, HB.out.2]
      exact ⟨_, rfl, HG3.out.own (p := ⟨w.heap.size + 1 + 1, 0, none⟩) (by simp; omega) _, XC.nil2 (Nat.le_refl _)⟩
    · obtain ⟨hz4, hbb, _⟩ := sp_ring hsp
      obtain ⟨Nn, rfl⟩ : ∃ Nn : Nat, N = (Nn : Int) := ⟨N.toNat, by omega⟩
      have hNn : 2 ≤ Nn ∧ Nn ≤ 16 := by omega
      have hps := (bas_at hbb).1
      have hpb : ∀ k, k < ps.length → 2 ≤ ps.getD k 0 ∧ ps.getD k 0 ≤ 268435456 := fun k hk => pm_bd ((bas_at hbb).2 k hk)
      have hTT := prB_T HBB.out
      have c3 := fun W (q : Row W (.slice a2 ss.length c2') ss) => isPlain_any (Nn : Int) T E (.slice a0 ps.length c0) (.slice (some ⟨g, 0, none⟩) ps.length ps.length) (.bool false) (.slice a l c) rfl rfl rfl rfl ss _ W q hl2 (by omega) ⟨_, _, _, _, _, _, _, _, _, _, rfl, rfl, rfl, rfl⟩
      have x0 := BX3.out.c (i := 0) rfl
      have x1 := BX3.out.c (i := 1) rfl
      have x2 := BX3.out.c (i := 2) rfl
      have x3 := BX3.out.c (i := 3) rfl
      have x4 := BX3.out.c (i := 4) rfl
      have x5 := BX3.out.c (i := 5) rfl
      have x6 := BX3.out.c (i := 6) rfl
      have HPB : Hid (∀ k, k < ps.length → 2 ≤ ps.getD k 0 ∧ ps.getD k 0 ≤ 268435456) := hpb
      have HPS : Hid (1 ≤ ps.length ∧ ps.length ≤ 6) := hps
      cases hpl : polyB T Nn ss
      · have HCX : Hid (∃ m : Nat, 2 ≤ m ∧ m ≤ 3) := ⟨2, by omega, by omega⟩
        rw [hpl] at c3
        have HB : Hid (Z = [] ∧ ok = false) := HNN.out (by rw [hpl, Bool.and_false])
        rcases h with ⟨hC, hm, g0, g1, rfl, p0, p1⟩ | ⟨hC, hm, g0, g1, g2, rfl, p0, p1, p2⟩
        all_goals
          first | clear hC hm p0 p1 p2 | clear hC hm p0 p1
          clear y0 f0
          go_wp2_with fail
          refine (c3 _ (HU2.out.old HG3.out)).mono ?_
          rintro e w3 ⟨rfl, g3⟩
          have HG4 : Hid (Old w w3) := Old.trans HG3.out g3
          have R4 : Hid (Bk w3 (w.heap.size + 1 + 1) #[.slice none 0 0] 42) := R3.out.old g3
          have y0 := R4.out.c (i := 0) rfl
          have f0 : w3.frozen? ⟨w.heap.size + 1 + 1, 0, none⟩ = false := frozen_of_row _ _ _ _ _ R4.out
          clear g3 x0 x1 x2 x3 x4 x5 x6
          go_wp2_with fail
          have q0 := (ci_put R4.out (.slice none 0 0)).c (i := 0) rfl
          refine bodyPost_ret (v := .tuple #[.agg #[.slice none 0 0], .bool false]) (by simp [results, Tryz.results31, go_sem, q0]) rfl ?_
          rw [HB.out.1, HB.out.2]
          exact ⟨_, rfl, HG4.out.own (p := ⟨w.heap.size + 1 + 1, 0, none⟩) (by simp; omega) _, XC.nil2 (Nat.le_refl _)⟩
      · rw [hpl] at c3
        obtain ⟨hsl, hsv⟩ := poly_parts hpl
        have HSL : Hid (ss.length = Nn) := show ss.length = Nn by omega
        have HSV : Hid (∀ i, i < ss.length → 0 ≤ ss.getD i 0 ∧ ss.getD i 0 < T) := hsv
        obtain ⟨Tn, rfl⟩ : ∃ Tn : Nat, T = (Tn : Int) := ⟨T.toNat, by omega⟩
        have HEND : Hid (ciB Nn ps xsss = true → ∀ w' r0, Old w w' → XC (sumZ ps xsss (lfZ (dmF (prodN (ps.map Int.toNat)) Tn) Nn ps ss)) w' w.heap.size w'.heap.size r0 → CiA Z ok w (.returned (.tuple #[.agg r0, .bool true])) w') := fun hC w' r0 h1 h2 => by
          obtain ⟨e1, e2⟩ := HY.out (by rw [HBB.out, hC, hpl]; rfl)
          rw [e1, e2]
          exact ⟨r0, rfl, h1, h2⟩
        have HKL : Hid (∀ W, Old w2 W → Calls Tryz.prog 80 #[.agg #[.int .i64 (Nn : Int), .int .i64 (Tn : Int), .int .i64 E, .slice a0 ps.length c0, .slice (some ⟨g, 0, none⟩) ps.length ps.length, .bool false, .slice a l c], .slice a2 ss.length c2'] W fun e w' => ∃ v, e = .returned v ∧ Old W w' ∧ ∃ a c, v = .slice a ps.length c ∧ ∃ aa, v = .slice aa ps.length ps.length ∧ RdX Nn ps Rf (lfL (dmF (prodN (ps.map Int.toNat)) Tn) ps ss) w' v) := fun W q => (impl_lifted Nn Tn E ps ss (prodN (ps.map Int.toNat)) Rf a0 ps.length c0 g a l c _ W HPS.out hNn (by omega) HSL.out HPB.out (HRG3.out.old q) (HU2.out.old (Old.trans HG3.out q)) (fun i hi => by have := HSV.out i hi; omega) (by omega) (HRQ3.out.old q)).mono fun e w' h => by
          obtain ⟨gl, _, rfl, q1, o1⟩ := h
          exact ⟨_, rfl, q1, _, _, rfl, _, rfl, Ows.rd (by have := HPS.out; omega) o1⟩
        have HKZ : Hid (∀ W, Old w2 W → Calls Tryz.prog 72 #[.slice (some ⟨g, 0, none⟩) ps.length ps.length] W (SmA Nn ps (List.replicate Nn 0) Rf W)) := fun W q => impl_noughtRows Nn ps Rf g W (HRG3.out.old q) (by have := HPS.out; omega) (by omega) (fun k hk => by have := HPB.out k hk; omega)
        have HNn : Hid (2 ≤ Nn ∧ Nn ≤ 16) := hNn
        clear hz4 hbb hpb hsp HR HBB HY HNN hsl hsv hpl HTW hTT hps
        rcases h with ⟨hC, hm, g0, g1, rfl, p0, p1⟩ | ⟨hC, hm, g0, g1, g2, rfl, p0, p1, p2⟩
        · have HCI : Hid (ciB Nn ps xsss = true) := hC
          have HBJ : Hid (∀ j, j < xsss.length → rwB Nn ps (xsss.getD j []) = true) := (rd_true hC).2
          have HPH : Hid (∀ j, j < 2 → PhG (w1.heap.size + 1) Nn ps Rf uf j w2 ((fun j => if j = 0 then g0 else g1) j)) := fun j hj => by
            rcases (show j = 0 ∨ j = 1 by omega) with rfl | rfl
            · simpa using p0
            · simpa using p1
          have HM : Hid (xsss.length = 2) := hm
          have HXA : Hid (∀ i, i < 2 → RdX Nn ps Rf (xsss.getD i []) w2 (.slice ((fun j => if j = 0 then g0 else g1) i) ps.length ps.length)) := fun i hi => by
            obtain ⟨b, _, hp⟩ := HPA.out (by rw [HM.out]; omega)
            have hxl := (rw_parts (HBJ.out i (by rw [HM.out]; exact hi))).1
            have hat := (hp.2 i (by rw [HM.out]; exact hi)).2 (by have := HPS.out; omega)
            exact RdX_of HNn.out (HPH.out i hi) (hat.old HG3.out) (HBJ.out i (by rw [HM.out]; exact hi))
          have HZLn : Hid ((sumZ ps xsss (lfZ (dmF (prodN (ps.map Int.toNat)) Tn) Nn ps ss)).length = 2) := by
            show (sumZ ps xsss (lfZ (dmF (prodN (ps.map Int.toNat)) Tn) Nn ps ss)).length = 2
            rw [sumZ_len, HM.out]
            rfl
          have HZR : Hid (∀ j, j < (sumZ ps xsss (lfZ (dmF (prodN (ps.map Int.toNat)) Tn) Nn ps ss)).length → ((sumZ ps xsss (lfZ (dmF (prodN (ps.map Int.toNat)) Tn) Nn ps ss)).getD j []).length = ps.length) := fun j hj => by
            rw [sumZ_add HBJ.out (lfZ_rw _ HSL.out HPB.out) j (by rw [sumZ_len] at hj; exact hj)]
            exact pairL_len _ _ _ _
          clear hC hm p0 p1 y0 f0 HPA HPH
          go_wp2_with fail
          refine (c3 _ (HU2.out.old HG3.out)).mono ?_
          rintro e w3 ⟨rfl, g3⟩
          have BX4 : Hid (Bk w3 w1.heap.size #[.int .i64 (Nn : Int), .int .i64 (Tn : Int), .int .i64 E, .slice a0 ps.length c0, .slice (some ⟨g, 0, none⟩) ps.length ps.length, .bool false, .slice a l c] 73) := BX3.out.old g3
          have HQ3 : Hid (Old w2 w3) := g3
          have R4 : Hid (Bk w3 (w.heap.size + 1 + 1) #[.slice none 0 0] 42) := R3.out.old g3
          have hs2 := R3.out.lt
          have z4 := BX4.out.c (i := 4) rfl
          clear g3 c3 x0 x1 x2 x3 x4 x5 x6 BX3
          go_wp2_with fail
          refine (HKZ.out w3 HQ3.out).mono ?_
          rintro e w4 ⟨gz, hgz, rfl, g4, o4⟩
          have HQ4 : Hid (Old w2 w4) := Old.trans HQ3.out g4
          have BX5 : Hid (Bk w4 w1.heap.size #[.int .i64 (Nn : Int), .int .i64 (Tn : Int), .int .i64 E, .slice a0 ps.length c0, .slice (some ⟨g, 0, none⟩) ps.length ps.length, .bool false, .slice a l c] 73) := BX4.out.old g4
          have R5 : Hid (Bk w4 (w.heap.size + 1 + 1) #[.slice none 0 0] 42) := R4.out.old g4
          have HZ4 : Hid (RdX Nn ps Rf (smS ps (List.replicate Nn 0)) w4 (.slice (some ⟨gz, 0, none⟩) ps.length ps.length)) := Ows.rd (by have := HPS.out; omega) o4
          have hs4 : w.heap.size + 1 + 1 < w4.heap.size := R5.out.lt
          have HW4 : Hid (Old w w4) := Old.trans HG3.out HQ4.out
          have HKS : Hid (∀ W a' c', Old w4 W → (∃ aa, (Value.slice a' ps.length c') = .slice aa ps.length ps.length ∧ RdX Nn ps Rf (lfL (dmF (prodN (ps.map Int.toNat)) Tn) ps ss) W (.slice a' ps.length c')) → Calls Tryz.prog 67 #[.agg #[.int .i64 (Nn : Int), .int .i64 (Tn : Int), .int .i64 E, .slice a0 ps.length c0, .slice (some ⟨g, 0, none⟩) ps.length ps.length, .bool false, .slice a l c], (.iface 125 (.agg #[.slice g0 ps.length ps.length, .slice g1 ps.length ps.length])), .iface 125 (.agg #[.slice a' ps.length c', .slice (some ⟨gz, 0, none⟩) ps.length ps.length])] W fun e w' => ∃ v, e = .returned v ∧ Old W w' ∧ ∃ a c, v = .slice a 2 c ∧ Ows (TS 109 1 2 (elP Nn false ps Rf (sumZ ps xsss (lfZ (dmF (prodN (ps.map Int.toNat)) Tn) Nn ps ss)))) w' w4.heap.size w'.heap.size [v]) := fun W a' c' q hpl => by
            obtain ⟨aa, e, rd⟩ := hpl
            simp only [Value.slice.injEq, true_and] at e
            obtain ⟨rfl, rfl⟩ := e
            refine (sum_lf2 Nn Tn E a0 ps.length c0 g false a l c ps ss Rf (dmF (prodN (ps.map Int.toNat)) Tn) xsss (fun j => if j = 0 then g0 else g1) (fun j => if j = 0 then a' else some ⟨gz, 0, none⟩) W HNn.out HPS.out HPB.out HSL.out HM.out HBJ.out (HRG3.out.old (Old.trans HQ4.out q)) (fun i hi => (HXA.out i hi).old (Old.trans HQ4.out q)) (fun i hi => by
              rcases (show i = 0 ∨ i = 1 by omega) with rfl | rfl
              · exact rd
              · exact HZ4.out.old q)).mono fun e w' h => ?_
            obtain ⟨v', rfl, q1, o1⟩ := h
            have o2 := o1.low (lo' := w4.heap.size) q.size (Nat.le_refl _) (Nat.le_refl _)
            obtain ⟨sa, sc, rfl⟩ : ∃ a c, v' = .slice a 2 c := by obtain ⟨_, B, hT, _⟩ := o1; exact TS.slice hT
            exact ⟨_, rfl, q1, sa, sc, rfl, o2⟩
          have HKC : Hid (∀ W a' c', Old w4 W → Ows (TS 109 1 2 (elP Nn false ps Rf (sumZ ps xsss (lfZ (dmF (prodN (ps.map Int.toNat)) Tn) Nn ps ss)))) W w4.heap.size W.heap.size [.slice a' 2 c'] → Calls Tryz.prog 66 #[.slice a' 2 c'] W fun e w' => ∃ v, e = .returned v ∧ Old W w' ∧ ∃ a c, v = .agg #[.slice a (sumZ ps xsss (lfZ (dmF (prodN (ps.map Int.toNat)) Tn) Nn ps ss)).length c] ∧ Ows (TTT (sumZ ps xsss (lfZ (dmF (prodN (ps.map Int.toNat)) Tn) Nn ps ss))) w' w4.heap.size w'.heap.size [.slice a (sumZ ps xsss (lfZ (dmF (prodN (ps.map Int.toNat)) Tn) Nn ps ss)).length c]) := fun W a' c' q o => by
            refine (cipherOf_any Nn false ps Rf (sumZ ps xsss (lfZ (dmF (prodN (ps.map Int.toNat)) Tn) Nn ps ss)) w4.heap.size (.slice a' 2 c') W (by have := HPS.out; omega) (by rw [HZLn.out]; omega) HZR.out (by rw [HZLn.out]; exact o) q.size).mono fun e w' h => ?_
            obtain ⟨r0, rfl, q1, a5, c5, rfl, o5⟩ := h
            exact ⟨_, rfl, q1, a5, c5, rfl, o5⟩
          clear g4 o4 HKZ z4 R4 BX4 HZR HZ4 HXA
          go_wp2_with fail
          refine reg_Ap w4 w1.heap.size (w.heap.size + 1 + 1) Nn Tn E a0 ps.length c0 (some ⟨g, 0, none⟩) ps.length ps.length false a l c (.iface 125 (.agg #[.slice g0 ps.length ps.length, .slice g1 ps.length ps.length])) a2 ss.length c2' (some ⟨gz, 0, none⟩) ps.length ps.length ps.length 2 (sumZ ps xsss (lfZ (dmF (prodN (ps.map Int.toNat)) Tn) Nn ps ss)).length (fun W v => ∃ aa, v = .slice aa ps.length ps.length ∧ RdX Nn ps Rf (lfL (dmF (prodN (ps.map Int.toNat)) Tn) ps ss) W v) (fun W v => Ows (TS 109 1 2 (elP Nn false ps Rf (sumZ ps xsss (lfZ (dmF (prodN (ps.map Int.toNat)) Tn) Nn ps ss)))) W w4.heap.size W.heap.size [v]) (fun W v => Ows (TTT (sumZ ps xsss (lfZ (dmF (prodN (ps.map Int.toNat)) Tn) Nn ps ss))) W w4.heap.size W.heap.size [v])
            (fun W W' v h q => by obtain ⟨aa, e, rd⟩ := h; exact ⟨aa, e, rd.old q⟩) (fun W W' v h q => (Ows.old (good_TS _ _ _ (good_elP Nn false ps Rf _)) h q).low (Nat.le_refl _) q.size (Nat.le_refl _)) (fun W W' v h q => (Ows.old (good_TTT _) h q).low (Nat.le_refl _) q.size (Nat.le_refl _)) BX5.out R5.out (fun W q => HKL.out W (Old.trans HQ4.out q)) HKS.out HKC.out _ _ ?_ ?_ ?_ ?_ ?_ ?_ ?_
          iterate 6 (· exact rfl)
          intro us W ca cc q6 o6
          have HO6 : Hid (Ows (TTT (sumZ ps xsss (lfZ (dmF (prodN (ps.map Int.toNat)) Tn) Nn ps ss))) W w4.heap.size W.heap.size [.slice ca (sumZ ps xsss (lfZ (dmF (prodN (ps.map Int.toNat)) Tn) Nn ps ss)).length cc]) := o6
          have HW6 : Hid (Old w W) := Old.trans HW4.out q6
          have R6 : Hid (Bk W (w.heap.size + 1 + 1) #[.slice none 0 0] 42) := R5.out.old q6
          have q0 : (W.setRow (w.heap.size + 1 + 1) #[.slice ca (sumZ ps xsss (lfZ (dmF (prodN (ps.map Int.toNat)) Tn) Nn ps ss)).length cc]).cell? ⟨w.heap.size + 1 + 1, 0, none⟩ = some (.slice ca (sumZ ps xsss (lfZ (dmF (prodN (ps.map Int.toNat)) Tn) Nn ps ss)).length cc) := (show Bk (W.setRow (w.heap.size + 1 + 1) #[.slice ca (sumZ ps xsss (lfZ (dmF (prodN (ps.map Int.toNat)) Tn) Nn ps ss)).length cc]) (w.heap.size + 1 + 1) #[.slice ca (sumZ ps xsss (lfZ (dmF (prodN (ps.map Int.toNat)) Tn) Nn ps ss)).length cc] 42 from heap_setRow_same R6.out).c (i := 0) rfl
          simp only [putAll, Act.put, slotAp, List.range, List.range.loop, List.map_cons, List.map_nil, List.getD_cons_zero, List.getD_cons_succ, List.setIfInBounds_toArray, List.set_cons_succ, List.set_cons_zero]
          clear q6 o6 HKL HKS HKC BX5 R5
          go_wp2_with fail
          refine bodyPost_ret (v := .tuple #[.agg #[.slice ca (sumZ ps xsss (lfZ (dmF (prodN (ps.map Int.toNat)) Tn) Nn ps ss)).length cc], .bool true]) (by simp [results, Tryz.results31, go_sem, q0]) rfl (HEND.out HCI.out _ _ (old_setRow HW6.out (by omega) _) ?_)
          refine ⟨ca, cc, rfl, ?_⟩
          have h2 := far_Ows (good_TTT (sumZ ps xsss (lfZ (dmF (prodN (ps.map Int.toNat)) Tn) Nn ps ss))) W (W.setRow (w.heap.size + 1 + 1) #[.slice ca (sumZ ps xsss (lfZ (dmF (prodN (ps.map Int.toNat)) Tn) Nn ps ss)).length cc]) w4.heap.size W.heap.size _ HO6.out (fun b h1 h2 => heap_setRow_other _ _ _ _ (by omega)) (by rw [size_setRow]; exact Nat.le_refl _)
          exact h2.low (lo' := w.heap.size) (by omega) (by rw [size_setRow]; exact Nat.le_refl _) (Nat.le_refl _)
        · have HCI : Hid (ciB Nn ps xsss = true) := hC
          have HBJ : Hid (∀ j, j < xsss.length → rwB Nn ps (xsss.getD j []) = true) := (rd_true hC).2
          have HPH : Hid (∀ j, j < 3 → PhG (w1.heap.size + 1) Nn ps Rf uf j w2 ((fun j => if j = 0 then g0 else if j = 1 then g1 else g2) j)) := fun j hj => by
            rcases (show j = 0 ∨ j = 1 ∨ j = 2 by omega) with rfl | rfl | rfl
            · simpa using p0
            · simpa using p1
            · simpa using p2
          have HM : Hid (xsss.length = 3) := hm
          have HXA : Hid (∀ i, i < 3 → RdX Nn ps Rf (xsss.getD i []) w2 (.slice ((fun j => if j = 0 then g0 else if j = 1 then g1 else g2) i) ps.length ps.length)) := fun i hi => by
            obtain ⟨b, _, hp⟩ := HPA.out (by rw [HM.out]; omega)
            have hxl := (rw_parts (HBJ.out i (by rw [HM.out]; exact hi))).1
            have hat := (hp.2 i (by rw [HM.out]; exact hi)).2 (by have := HPS.out; omega)
            exact RdX_of HNn.out (HPH.out i hi) (hat.old HG3.out) (HBJ.out i (by rw [HM.out]; exact hi))
          have HZLn : Hid ((sumZ ps xsss (lfZ (dmF (prodN (ps.map Int.toNat)) Tn) Nn ps ss)).length = 3) := by
            show (sumZ ps xsss (lfZ (dmF (prodN (ps.map Int.toNat)) Tn) Nn ps ss)).length = 3
            rw [sumZ_len, HM.out]
            rfl
          have HZR : Hid (∀ j, j < (sumZ ps xsss (lfZ (dmF (prodN (ps.map Int.toNat)) Tn) Nn ps ss)).length → ((sumZ ps xsss (lfZ (dmF (prodN (ps.map Int.toNat)) Tn) Nn ps ss)).getD j []).length = ps.length) := fun j hj => by
            rw [sumZ_add HBJ.out (lfZ_rw _ HSL.out HPB.out) j (by rw [sumZ_len] at hj; exact hj)]
            exact pairL_len _ _ _ _
          clear hC hm p0 p1 p2 y0 f0 HPA HPH
          go_wp2_with fail
          refine (c3 _ (HU2.out.old HG3.out)).mono ?_
          rintro e w3 ⟨rfl, g3⟩
          have BX4 : Hid (Bk w3 w1.heap.size #[.int .i64 (Nn : Int), .int .i64 (Tn : Int), .int .i64 E, .slice a0 ps.length c0, .slice (some ⟨g, 0, none⟩) ps.length ps.length, .bool false, .slice a l c] 73) := BX3.out.old g3
          have HQ3 : Hid (Old w2 w3) := g3
          have R4 : Hid (Bk w3 (w.heap.size + 1 + 1) #[.slice none 0 0] 42) := R3.out.old g3
          have hs2 := R3.out.lt
          have z4 := BX4.out.c (i := 4) rfl
          clear g3 c3 x0 x1 x2 x3 x4 x5 x6 BX3
          go_wp2_with fail
          refine (HKZ.out w3 HQ3.out).mono ?_
          rintro e w4 ⟨gz, hgz, rfl, g4, o4⟩
          have HQ4 : Hid (Old w2 w4) := Old.trans HQ3.out g4
          have BX5 : Hid (Bk w4 w1.heap.size #[.int .i64 (Nn : Int), .int .i64 (Tn : Int), .int .i64 E, .slice a0 ps.length c0, .slice (some ⟨g, 0, none⟩) ps.length ps.length, .bool false, .slice a l c] 73) := BX4.out.old g4
          have R5 : Hid (Bk w4 (w.heap.size + 1 + 1) #[.slice none 0 0] 42) := R4.out.old g4
          have HZ4 : Hid (RdX Nn ps Rf (smS ps (List.replicate Nn 0)) w4 (.slice (some ⟨gz, 0, none⟩) ps.length ps.length)) := Ows.rd (by have := HPS.out; omega) o4
          have hs4 : w.heap.size + 1 + 1 < w4.heap.size := R5.out.lt
          have HW4 : Hid (Old w w4) := Old.trans HG3.out HQ4.out
          have HKS : Hid (∀ W a' c', Old w4 W → (∃ aa, (Value.slice a' ps.length c') = .slice aa ps.length ps.length ∧ RdX Nn ps Rf (lfL (dmF (prodN (ps.map Int.toNat)) Tn) ps ss) W (.slice a' ps.length c')) → Calls Tryz.prog 67 #[.agg #[.int .i64 (Nn : Int), .int .i64 (Tn : Int), .int .i64 E, .slice a0 ps.length c0, .slice (some ⟨g, 0, none⟩) ps.length ps.length, .bool false, .slice a l c], (.iface 167 (.agg #[.slice g0 ps.length ps.length, .slice g1 ps.length ps.length, .slice g2 ps.length ps.length])), .iface 125 (.agg #[.slice a' ps.length c', .slice (some ⟨gz, 0, none⟩) ps.length ps.length])] W fun e w' => ∃ v, e = .returned v ∧ Old W w' ∧ ∃ a c, v = .slice a 3 c ∧ Ows (TS 109 1 3 (elP Nn false ps Rf (sumZ ps xsss (lfZ (dmF (prodN (ps.map Int.toNat)) Tn) Nn ps ss)))) w' w4.heap.size w'.heap.size [v]) := fun W a' c' q hpl => by
            obtain ⟨aa, e, rd⟩ := hpl
            simp only [Value.slice.injEq, true_and] at e
            obtain ⟨rfl, rfl⟩ := e
            refine (sum_lf3 Nn Tn E a0 ps.length c0 g false a l c ps ss Rf (dmF (prodN (ps.map Int.toNat)) Tn) xsss (fun j => if j = 0 then g0 else if j = 1 then g1 else g2) (fun j => if j = 0 then a' else some ⟨gz, 0, none⟩) W HNn.out HPS.out HPB.out HSL.out HM.out HBJ.out (HRG3.out.old (Old.trans HQ4.out q)) (fun i hi => (HXA.out i hi).old (Old.trans HQ4.out q)) (fun i hi => by
              rcases (show i = 0 ∨ i = 1 by omega) with rfl | rfl
              · exact rd
              · exact HZ4.out.old q)).mono fun e w' h => ?_
            obtain ⟨v', rfl, q1, o1⟩ := h
            have o2 := o1.low (lo' := w4.heap.size) q.size (Nat.le_refl _) (Nat.le_refl _)
            obtain ⟨sa, sc, rfl⟩ : ∃ a c, v' = .slice a 3 c := by obtain ⟨_, B, hT, _⟩ := o1; exact TS.slice hT
            exact ⟨_, rfl, q1, sa, sc, rfl, o2⟩
          have HKC : Hid (∀ W a' c', Old w4 W → Ows (TS 109 1 3 (elP Nn false ps Rf (sumZ ps xsss (lfZ (dmF (prodN (ps.map Int.toNat)) Tn) Nn ps ss)))) W w4.heap.size W.heap.size [.slice a' 3 c'] → Calls Tryz.prog 66 #[.slice a' 3 c'] W fun e w' => ∃ v, e = .returned v ∧ Old W w' ∧ ∃ a c, v = .agg #[.slice a (sumZ ps xsss (lfZ (dmF (prodN (ps.map Int.toNat)) Tn) Nn ps ss)).length c] ∧ Ows (TTT (sumZ ps xsss (lfZ (dmF (prodN (ps.map Int.toNat)) Tn) Nn ps ss))) w' w4.heap.size w'.heap.size [.slice a (sumZ ps xsss (lfZ (dmF (prodN (ps.map Int.toNat)) Tn) Nn ps ss)).length c]) := fun W a' c' q o => by
            refine (cipherOf_any Nn false ps Rf (sumZ ps xsss (lfZ (dmF (prodN (ps.map Int.toNat)) Tn) Nn ps ss)) w4.heap.size (.slice a' 3 c') W (by have := HPS.out; omega) (by rw [HZLn.out]; omega) HZR.out (by rw [HZLn.out]; exact o) q.size).mono fun e w' h => ?_
            obtain ⟨r0, rfl, q1, a5, c5, rfl, o5⟩ := h
            exact ⟨_, rfl, q1, a5, c5, rfl, o5⟩
          clear g4 o4 HKZ z4 R4 BX4 HZR HZ4 HXA
          go_wp2_with fail
          refine reg_Ap w4 w1.heap.size (w.heap.size + 1 + 1) Nn Tn E a0 ps.length c0 (some ⟨g, 0, none⟩) ps.length ps.length false a l c (.iface 167 (.agg #[.slice g0 ps.length ps.length, .slice g1 ps.length ps.length, .slice g2 ps.length ps.length])) a2 ss.length c2' (some ⟨gz, 0, none⟩) ps.length ps.length ps.length 3 (sumZ ps xsss (lfZ (dmF (prodN (ps.map Int.toNat)) Tn) Nn ps ss)).length (fun W v => ∃ aa, v = .slice aa ps.length ps.length ∧ RdX Nn ps Rf (lfL (dmF (prodN (ps.map Int.toNat)) Tn) ps ss) W v) (fun W v => Ows (TS 109 1 3 (elP Nn false ps Rf (sumZ ps xsss (lfZ (dmF (prodN (ps.map Int.toNat)) Tn) Nn ps ss)))) W w4.heap.size W.heap.size [v]) (fun W v => Ows (TTT (sumZ ps xsss (lfZ (dmF (prodN (ps.map Int.toNat)) Tn) Nn ps ss))) W w4.heap.size W.heap.size [v])
            (fun W W' v h q => by obtain ⟨aa, e, rd⟩ := h; exact ⟨aa, e, rd.old q⟩) (fun W W' v h q => (Ows.old (good_TS _ _ _ (good_elP Nn false ps Rf _)) h q).low (Nat.le_refl _) q.size (Nat.le_refl _)) (fun W W' v h q => (Ows.old (good_TTT _) h q).low (Nat.le_refl _) q.size (Nat.le_refl _)) BX5.out R5.out (fun W q => HKL.out W (Old.trans HQ4.out q)) HKS.out HKC.out _ _ ?_ ?_ ?_ ?_ ?_ ?_ ?_
          iterate 6 (· exact rfl)
          intro us W ca cc q6 o6
          have HO6 : Hid (Ows (TTT (sumZ ps xsss (lfZ (dmF (prodN (ps.map Int.toNat)) Tn) Nn ps ss))) W w4.heap.size W.heap.size [.slice ca (sumZ ps xsss (lfZ (dmF (prodN (ps.map Int.toNat)) Tn) Nn ps ss)).length cc]) := o6
          have HW6 : Hid (Old w W) := Old.trans HW4.out q6
          have R6 : Hid (Bk W (w.heap.size + 1 + 1) #[.slice none 0 0] 42) := R5.out.old q6
          have q0 : (W.setRow (w.heap.size + 1 + 1) #[.slice ca (sumZ ps xsss (lfZ (dmF (prodN (ps.map Int.toNat)) Tn) Nn ps ss)).length cc]).cell? ⟨w.heap.size + 1 + 1, 0, none⟩ = some (.slice ca (sumZ ps xsss (lfZ (dmF (prodN (ps.map Int.toNat)) Tn) Nn ps ss)).length cc) := (show Bk (W.setRow (w.heap.size + 1 + 1) #[.slice ca (sumZ ps xsss (lfZ (dmF (prodN (ps.map Int.toNat)) Tn) Nn ps ss)).length cc]) (w.heap.size + 1 + 1) #[.slice ca (sumZ ps xsss (lfZ (dmF (prodN (ps.map Int.toNat)) Tn) Nn ps ss)).length cc] 42 from heap_setRow_same R6.out).c (i := 0) rfl
          simp only [putAll, Act.put, slotAp, List.range, List.range.loop, List.map_cons, List.map_nil, List.getD_cons_zero, List.getD_cons_succ, List.setIfInBounds_toArray, List.set_cons_succ, List.set_cons_zero]
          clear q6 o6 HKL HKS HKC BX5 R5
          go_wp2_with fail
          refine bodyPost_ret (v := .tuple #[.agg #[.slice ca (sumZ ps xsss (lfZ (dmF (prodN (ps.map Int.toNat)) Tn) Nn ps ss)).length cc], .bool true]) (by simp [results, Tryz.results31, go_sem, q0]) rfl (HEND.out HCI.out _ _ (old_setRow HW6.out (by omega) _) ?_)
          refine ⟨ca, cc, rfl, ?_⟩
          have h2 := far_Ows (good_TTT (sumZ ps xsss (lfZ (dmF (prodN (ps.map Int.toNat)) Tn) Nn ps ss))) W (W.setRow (w.heap.size + 1 + 1) #[.slice ca (sumZ ps xsss (lfZ (dmF (prodN (ps.map Int.toNat)) Tn) Nn ps ss)).length cc]) w4.heap.size W.heap.size _ HO6.out (fun b h1 h2 => heap_setRow_other _ _ _ _ (by omega)) (by rw [size_setRow]; exact Nat.le_refl _)
          exact h2.low (lo' := w.heap.size) (by omega) (by rw [size_setRow]; exact Nat.le_refl _) (Nat.le_refl _)
end Go.Proofs.YtakleianimcmdaaGreatDoor
/- Proved: the contract of the model's l9Delta. -/
namespace Go.Proofs.YtakleianimcmdaaGreatDoor
open Go.ChangeShapes Go.WideShapes Go.ChangeAt Go.RowKit
open M2
set_option linter.unusedVariables false
set_option linter.unusedSimpArgs false
set_option maxRecDepth 100000 in
set_option maxHeartbeats 4000000 in
theorem spec_l9Q (N T E : Int) (P : List Nat) (a0 : Option Addr) (l0 c0 : Nat) (w : World) (hv : Row w (.slice a0 l0 c0) (toZ P)) (hb : Bas P) :
    Calls Tryz.prog 89 #[.agg #[.int .i64 N, .int .i64 T, .int .i64 E, .slice a0 l0 c0]] w fun e w' => ∃ v', e = .returned v' ∧ Old w w' ∧ Row w' v' (toI (dig (prodN P))) := by
  have HK : Hid (∀ W, Old w W → Calls Tryz.prog 151 #[.slice a0 l0 c0] W fun e w' => ∃ v', e = .returned v' ∧ Old W w' ∧ Row w' v' (toI (dig (prodN P)))) := fun W g => spec_product P _ W (hv.old g) hb.len6 hb.hi
  have HA : Hid (Old w (w.alloc (.cells #[.int .i64 N, .int .i64 T, .int .i64 E, .slice a0 l0 c0] 28))) := (Old.refl w).alloc _
  have BA : Hid (Bk (w.alloc (.cells #[.int .i64 N, .int .i64 T, .int .i64 E, .slice a0 l0 c0] 28)) w.heap.size #[.int .i64 N, .int .i64 T, .int .i64 E, .slice a0 l0 c0] 28) := Bk.new' w _ _ rfl
  have x3 := BA.out.c (i := 3) rfl
  clear hv hb
  go_enter Tryz.func89, Tryz.ntmps89
  go_wp2_with fail
  refine (HK.out _ HA.out).mono ?_
  rintro e w1 ⟨v1, rfl, g1, r1⟩
  have HG : Hid (Old w w1) := Old.trans HA.out g1
  have HR : Hid (Row w1 v1 (toI (dig (prodN P)))) := r1
  clear g1 r1 x3
  go_wp2_with fail
  go_ret
  exact ⟨_, rfl, HG.out, HR.out⟩
set_option maxRecDepth 100000 in
set_option maxHeartbeats 8000000 in
theorem spec_l9Delta (N E : Int) (T : Nat) (P : List Nat) (ss : List Int) (v u : Value) (w : World) (hv : Row w v (toZ P)) (hu : Row w u ss) (hb : Bas P) (hT : 2 ≤ T ∧ T ≤ 65536) (hl : 1 ≤ ss.length ∧ ss.length ≤ 16) (hs : ∀ i, i < ss.length → 0 ≤ ss.getD i 0 ∧ ss.getD i 0 < T) :
    Calls Tryz.prog 78 #[.agg #[.int .i64 N, .int .i64 T, .int .i64 E, v], u] w fun e w' => ∃ v', e = .returned v' ∧ Old w w' ∧ OwS (lfL (dmF (prodN P) T) (toZ P) ss) w' w.heap.size w'.heap.size v' := by
  obtain ⟨a0, c0, ev⟩ := hv.slice
  obtain ⟨a1, c1, eu⟩ := hu.slice
  subst ev eu
  have hpl : (toZ P).length = P.length := toZ_len P
  have hpb : ∀ k, k < (toZ P).length → 2 ≤ (toZ P).getD k 0 ∧ (toZ P).getD k 0 ≤ 268435456 := fun k hk => by
    rw [hpl] at hk
    have hm : P.getD k 0 ∈ P := by simp [List.getD, hk]
    have h1 := hb.lo _ hm
    have h2 := hb.hi _ hm
    have e : (toZ P).getD k 0 = ((P.getD k 0 : Nat) : Int) := by simp [toZ, List.getD, hk]
    rw [e]
    omega
  have hps : 1 ≤ (toZ P).length ∧ (toZ P).length ≤ 6 := by rw [hpl]; exact ⟨hb.len1, hb.len6⟩
  have hcq := hb.cnt
  have hcd : cnt (prodN P / T) ≤ 7 := cnt_le9 (Nat.div_le_self _ _) hcq
  have hdT : dig T ≠ [] := fun e => by
    have h2 := val_dig T
    rw [e] at h2
    simp [val] at h2
    omega
  have hcT : cnt T ≤ 40 := by
    refine dig_len_le (Nat.lt_of_le_of_lt hT.2 ?_)
    unfold LB
    decide
  have HKQ : Hid (∀ W, Old w W → Calls Tryz.prog 89 #[.agg #[.int .i64 N, .int .i64 T, .int .i64 E, .slice a0 (toZ P).length c0]] W fun e w' => ∃ v, e = .returned v ∧ Old W w' ∧ ∃ a c, v = .slice a (toI (dig (prodN P))).length c ∧ Row w' (.slice a (toI (dig (prodN P))).length c) (toI (dig (prodN P)))) := fun W g => (spec_l9Q N T E P a0 _ c0 W (hv.old g) hb).mono fun e w' h => by
    obtain ⟨v', rfl, g', r⟩ := h
    obtain ⟨a, c, rfl⟩ := r.slice
    exact ⟨_, rfl, g', a, c, rfl, r⟩
  have HKO : Hid (∀ W, Old w W → Calls Tryz.prog 91 #[.int .i64 T] W fun e w' => ∃ v, e = .returned v ∧ Old W w' ∧ ∃ a c, v = .slice a (toI (dig T)).length c ∧ Row w' (.slice a (toI (dig T)).length c) (toI (dig T))) := fun W g => (of_any T W (by omega)).mono fun e w' h => by
    obtain ⟨v', rfl, g', o⟩ := h
    have r := Own.row o
    obtain ⟨a, c, rfl⟩ := r.slice
    exact ⟨_, rfl, g', a, c, rfl, r⟩
  have HKD : Hid (∀ W a c a' c', Old w W → Row W (.slice a (toI (dig (prodN P))).length c) (toI (dig (prodN P))) → Row W (.slice a' (toI (dig T)).length c') (toI (dig T)) → Calls Tryz.prog 93 #[.slice a (toI (dig (prodN P))).length c, .slice a' (toI (dig T)).length c'] W fun e w' => ∃ v, e = .returned v ∧ Old W w' ∧ ∃ a1 c1 a2 l2 c2, v = .tuple #[.slice a1 (toI (dig (prodN P / T))).length c1, .slice a2 l2 c2] ∧ Row w' (.slice a1 (toI (dig (prodN P / T))).length c1) (toI (dig (prodN P / T)))) := fun W a c a' c' g h1 h2 => (div_any (dig (prodN P)) (dig T) _ _ W h1 h2 (dig_lim _) (dig_nrm _) hdT (by unfold cnt at hcq; omega) (by unfold cnt at hcT; omega)).mono fun e w' h => by
    obtain ⟨v1, v2, rfl, g', o1, o2⟩ := h
    rw [val_dig, val_dig] at o1
    have r := Own.row o1
    obtain ⟨x1, y1, rfl⟩ := r.slice
    obtain ⟨x2, y2, rfl⟩ := (Own.row o2).slice
    exact ⟨_, rfl, g', x1, y1, x2, _, y2, rfl, r⟩
  have HKM : Hid (∀ W, Old w W → Calls Tryz.prog 82 #[.agg #[.int .i64 N, .int .i64 T, .int .i64 E, .slice a0 (toZ P).length c0], .slice a1 ss.length c1] W fun e w' => ∃ v, e = .returned v ∧ Old W w' ∧ RowS w' v (smS (toZ P) ss)) := fun W g => (spec_l8Small N T E (toZ P) ss _ _ W (hv.old g) (hu.old g) hps hl hpb (fun i hi => by have := hs i hi; omega)).mono fun e w' h => by
    obtain ⟨v', rfl, g', o⟩ := h
    exact ⟨_, rfl, g', o.rowS⟩
  have HKS : Hid (∀ W u a c, Old w W → Row W (.slice a (toI (dig (prodN P / T))).length c) (toI (dig (prodN P / T))) → RowS W u (smS (toZ P) ss) → Calls Tryz.prog 136 #[.agg #[.int .i64 N, .slice a0 (toZ P).length c0], u, .agg #[.bool false, .slice a (toI (dig (prodN P / T))).length c]] W fun e w' => ∃ v, e = .returned v ∧ Old W w' ∧ OwS (lfL (dmF (prodN P) T) (toZ P) ss) w' W.heap.size w'.heap.size v) := fun W u a c g hd hru => by
    have := spec_l5Scale (dmF (prodN P) T) false a (toI (dig (prodN P / T))).length c N (toZ P) (smS (toZ P) ss) (.slice a0 (toZ P).length c0) u W (hv.old g) hru hps (smS_len _ _) (fun k hk => by
      rw [smS_get _ _ _ hk, smR_len]
      refine ⟨hl.2, hpb k hk, fun i hi => ?_⟩
      rw [smR_get _ _ _ hi]
      have h1 := hpb k hk
      have g1 := Int.emod_nonneg (ss.getD i 0) (show (toZ P).getD k 0 ≠ 0 by omega)
      have g2 := Int.emod_lt_of_pos (ss.getD i 0) (show 0 < (toZ P).getD k 0 by omega)
      omega) (fun k hk => by
      have h1 := hpb k hk
      refine ⟨?_, fun W' g' => ?_⟩
      · unfold dmF
        have g1 := Int.emod_nonneg ((prodN P / T : Nat) : Int) (show (toZ P).getD k 0 ≠ 0 by omega)
        have g2 := Int.emod_lt_of_pos ((prodN P / T : Nat) : Int) (show 0 < (toZ P).getD k 0 by omega)
        omega
      · obtain ⟨p, hp⟩ : ∃ p : Nat, (toZ P).getD k 0 = p := ⟨((toZ P).getD k 0).toNat, by omega⟩
        rw [hp] at h1 ⊢
        have h2 := modulo_any false (dig (prodN P / T)) p _ W' (hd.old g') (dig_lim _) (by unfold cnt at hcd; omega) (by omega) (by omega)
        rw [show sv false (dig (prodN P / T)) = ((prodN P / T : Nat) : Int) by simp [sv, val_dig]] at h2
        exact h2)
    exact this
  have HA : Hid (Old w (w.alloc (.cells #[.int .i64 N, .int .i64 T, .int .i64 E, .slice a0 (toZ P).length c0] 28))) := (Old.refl w).alloc _
  have BA : Hid (Bk (w.alloc (.cells #[.int .i64 N, .int .i64 T, .int .i64 E, .slice a0 (toZ P).length c0] 28)) w.heap.size #[.int .i64 N, .int .i64 T, .int .i64 E, .slice a0 (toZ P).length c0] 28) := Bk.new' w _ _ rfl
  have hs0 : w.heap.size ≤ (w.alloc (.cells #[.int .i64 N, .int .i64 T, .int .i64 E, .slice a0 (toZ P).length c0] 28)).heap.size := HA.out.size
  generalize hwA : w.alloc (.cells #[.int .i64 N, .int .i64 T, .int .i64 E, .slice a0 (toZ P).length c0] 28) = wA at HA BA hs0
  have HKP : Hid (∀ W, Calls Tryz.prog 63 #[.agg #[.int .i64 N, .int .i64 T, .int .i64 E, .slice a0 (toZ P).length c0]] W fun e w' => ∃ v, e = .returned v ∧ Old W w' ∧ v = .agg #[.int .i64 N, .slice a0 (toZ P).length c0]) := fun W => (l8Space_any N T E a0 (toZ P).length c0 W).mono fun e w' h => ⟨_, h.1, h.2, rfl⟩
  generalize lfL (dmF (prodN P) T) (toZ P) ss = ZZ at *
  generalize toI (dig (prodN P / T)) = ds at *
  generalize toI (dig (prodN P)) = qs at *
  generalize toI (dig T) = ts at *
  generalize smS (toZ P) ss = ms at *
  clear hv hu hb hs hpb hps hcq hcd hdT hcT hpl hl hT
  generalize (toZ P).length = lP at *
  generalize ss.length = lS at *
  go_enter Tryz.func78, Tryz.ntmps78
  go_wp2_with fail
  refine reg_Da wA N T E a0 lP c0 w.heap.size qs.length ts.length ds.length qs ts ds BA.out (fun W q => HKQ.out W (Old.trans HA.out q)) (fun W q => HKO.out W (Old.trans HA.out q)) (fun W a c a' c' q => HKD.out W a c a' c' (Old.trans HA.out q)) _ _ ?_ ?_ ?_
  iterate 2 (· exact rfl)
  intro us W da dc q1 h9 r1
  have HR1 : Hid (Row W (.slice da ds.length dc) ds) := r1
  have HQ1 : Hid (Old w W) := Old.trans HA.out q1
  have B1 : Hid (Bk W w.heap.size #[.int .i64 N, .int .i64 T, .int .i64 E, .slice a0 lP c0] 28) := BA.out.old q1
  simp only [putAll, Act.put, slotDa, List.range, List.range.loop, List.map_cons, List.map_nil, List.getD_cons_zero, List.getD_cons_succ, List.setIfInBounds_toArray, List.set_cons_succ, List.set_cons_zero, h9]
  clear q1 r1 h9 HKQ HKO HKD BA HA hwA hs0
  go_wp2_with fail
  refine reg_Db W w.heap.size N T E a0 lP c0 (.slice a1 lS c1) da ds.length dc (fun W' x => RowS W' x ms) (fun W' x => OwS ZZ W' W.heap.size W'.heap.size x) (fun _ _ _ h q => h.old q) (fun W1 W2 x h q => ((far_OwS ZZ).old h q (Nat.le_refl _)).high q.size (Nat.le_refl _)) B1.out (fun W' q => HKP.out W') (fun W' q => HKM.out W' (Old.trans HQ1.out q)) (fun W' u q hu => (HKS.out W' u da dc (Old.trans HQ1.out q) (HR1.out.old q) hu).mono fun e w' h => ?_) _ _ ?_ ?_ ?_ ?_ ?_
  · obtain ⟨v, e1, g', o⟩ := h
    exact ⟨v, e1, g', o.low q.size⟩
  iterate 4 (· exact rfl)
  intro us2 W2 q2 o2
  have HO2 : Hid (OwS ZZ W2 W.heap.size W2.heap.size (us2 8)) := o2
  have HQ2 : Hid (Old w W2) := Old.trans HQ1.out q2
  simp only [putAll, Act.put, slotDb, List.range, List.range.loop, List.map_cons, List.map_nil, List.getD_cons_zero, List.getD_cons_succ, List.setIfInBounds_toArray, List.set_cons_succ, List.set_cons_zero]
  clear q2 o2
  go_wp2_with fail
  go_ret
  exact ⟨_, rfl, HQ2.out, HO2.out.low HQ1.out.size⟩
end Go.Proofs.YtakleianimcmdaaGreatDoor
/- Proved: the statement on AddPlain at every argument, in a world in which the two tables are laid. -/
namespace Go.Proofs.YtakleianimcmdaaGreatDoor
open Go.ChangeShapes Go.WideShapes Go.ChangeAt Go.RowKit
set_option linter.unusedVariables false
set_option linter.unusedSimpArgs false
open M1
theorem lfZ_ci {N : Int} {ps ss : List Int} {m : Int → Int} (hN : 0 ≤ N) (hl : (ss.length : Int) = N) (hp : ∀ k, k < ps.length → 2 ≤ ps.getD k 0 ∧ ps.getD k 0 ≤ 268435456) : ciB N ps (lfZ m N.toNat ps ss) = true := by
  unfold ciB rdB
  rw [Bool.and_eq_true]
  refine ⟨decide_eq_true ⟨by simp [lfZ], by simp [lfZ]⟩, decide_eq_true fun j hj => ?_⟩
  have := lfZ_rw (Nn := N.toNat) (ps := ps) (ss := ss) m (by omega) hp j hj
  rwa [show ((N.toNat : Nat) : Int) = N by omega] at this
theorem lfZ_0 (m : Int → Int) (Nn : Nat) (ps ss : List Int) : (lfZ m Nn ps ss).getD 0 [] = lfL m ps ss := rfl
theorem lfZ_1 (m : Int → Int) (Nn : Nat) (ps ss : List Int) : (lfZ m Nn ps ss).getD 1 [] = smS ps (List.replicate Nn 0) := rfl
theorem lfZ_len (m : Int → Int) (Nn : Nat) (ps ss : List Int) : (lfZ m Nn ps ss).length = 2 := rfl
set_option maxRecDepth 100000 in
theorem spec_AddPlain_any (N T E : Int) (ps : List Int) (xsss : List (List (List Int))) (ss : List Int) (v u u2 : Value) (w : World) (hv : Row w v ps) (hf : Fit v) (hu : RowT w u xsss) (hu2 : Row w u2 ss) (hl2 : ss.length ≤ 9223372036854775807) (hlp : ps.length ≤ 9223372036854775807) (hl : xsss.length ≤ 1048576) (hr : ∀ r ∈ xsss, r.length ≤ 1048576 ∧ ∀ q ∈ r, q.length ≤ 1048576) (hx : ∀ x ∈ ps, -9223372036854775808 ≤ x ∧ x ≤ 9223372036854775807) (Z : List (List (List Int))) (ok : Bool) (hy : (prB N T E ps && ciB N ps xsss && polyB T N ss) = true → Z = sumZ ps xsss (lfZ (dmF (prodN (ps.map Int.toNat)) T.toNat) N.toNat ps ss) ∧ ok = true) (hn : (prB N T E ps && ciB N ps xsss && polyB T N ss) = false → Z = [] ∧ ok = false) :
    Calls Tryz.prog 29 #[.agg #[.int .i64 N, .int .i64 T, .int .i64 E, v], .agg #[u], u2] w (CiA Z ok w) := by
  have KG := fun W (g : Old w W) => spec_goodCipher N T E ps xsss v u W (hv.old g) hf (hu.old g) hlp hl hr hx
  obtain ⟨a0, c0, ev⟩ := hv.slice
  subst ev
  have KP := fun (h : (prB N T E ps && ciB N ps xsss) = true) W (g : Old w W) => l9Plain_any N T E a0 ps.length c0 ss u2 W (hu2.old g) hl2 (prB_T ((Bool.and_eq_true _ _ ▸ h).1))
  obtain ⟨a2, c2, eu2⟩ := hu2.slice
  subst eu2
  cases h : (prB N T E ps && ciB N ps xsss && polyB T N ss)
  · obtain ⟨rfl, rfl⟩ := hn h
    obtain ⟨a1, c1, eu⟩ := hu.slice
    subst eu
    exact spec_AddPlain_no N T E _ _ _ _ _ _ _ _ _ _ _ w h KG KP
  · obtain ⟨eZ, rfl⟩ := hy h
    rw [Bool.and_eq_true] at h
    obtain ⟨h1, hpl⟩ := h
    rw [h1] at KG
    replace KP := KP h1
    rw [hpl] at KP
    rw [Bool.and_eq_true] at h1
    obtain ⟨hm, hB⟩ := rd_true h1.2
    obtain ⟨hz4, hbb, hok⟩ := sp_ring (prB_sp h1.1)
    have hTT := prB_T h1.1
    have hps := (bas_at hbb).1
    have hpb : ∀ k, k < ps.length → 2 ≤ ps.getD k 0 ∧ ps.getD k 0 ≤ 268435456 := fun k hk => pm_bd ((bas_at hbb).2 k hk)
    obtain ⟨P, hPz, hbas⟩ := basB_yes hbb
    have hPn : ps.map Int.toNat = P := by rw [hPz]; exact toZ_bk P
    obtain ⟨Tn, rfl⟩ : ∃ Tn : Nat, T = (Tn : Int) := ⟨T.toNat, by omega⟩
    rw [hPn, show ((Tn : Int).toNat) = Tn by omega] at eZ
    obtain ⟨hsl, hsv⟩ := poly_parts hpl
    have hci := lfZ_ci (N := N) (ps := ps) (ss := ss) (m := dmF (prodN P) Tn) (by omega) hsl hpb
    obtain ⟨_, hB2⟩ := rd_true hci
    rw [lfZ_len] at hB2
    have hlen : Z.length = xsss.length := by rw [eZ, sumZ_len, lfZ_len]; omega
    have hown : ∀ xss, rwB N ps xss = true → (1 ≤ xss.length ∧ xss.length ≤ 6) ∧ ∀ k, k < xss.length → 1 ≤ (xss.getD k []).length ∧ (xss.getD k []).length ≤ 16 := fun xss hw => by
      obtain ⟨q1, q2⟩ := rw_parts hw
      refine ⟨by omega, fun k hk => ?_⟩
      have := (poly_parts (q2 k (by omega))).1
      omega
    rcases hu with ⟨a, cap, e, e2⟩ | ⟨b, o, cap, us, e, hb, h0, hc⟩
    · rw [e2] at hm
      simp at hm
    · subst e
      rw [← hlen] at KG ⊢
      refine spec_AddPlain_yes N Tn E _ _ _ b o cap _ _ _ Z us (lfL (dmF (prodN P) Tn) ps ss) w (by rw [hlen]; exact hm) hb (fun j hj => ?_) (fun j hj => ?_) KG KP (fun W g => ?_) (fun W g u hu => ?_) (fun j hj1 hj W g => ?_)
      · rw [hlen] at hj
        obtain ⟨x, y, e⟩ := (hc j hj).2.slice
        exact ⟨x, _, y, e⟩
      · rw [hlen] at hj
        exact (hc j hj).1
      · have h3 := spec_l9Delta N E Tn P ss (.slice a0 ps.length c0) _ W (by rw [← hPz]; exact hv.old g) (hu2.old g) hbas (by omega) (by omega) hsv
        rw [← hPz] at h3
        refine h3.mono fun e w' h => ?_
        obtain ⟨v', e1, e2, e3⟩ := h
        exact ⟨v', e1, e2, e3.rowS⟩
      · have h2 : (0 : Nat) < max xsss.length (lfZ (dmF (prodN P) Tn) N.toNat ps ss).length := by rw [lfZ_len]; omega
        rw [eZ, sumZ_get _ _ _ _ h2, if_pos (by omega), if_pos (by rw [lfZ_len]; omega), lfZ_0]
        obtain ⟨q1, q2⟩ := rw_parts (hB 0 (by omega))
        obtain ⟨s1, s2⟩ := rw_parts (hB2 0 (by omega))
        rw [lfZ_0] at s1 s2
        refine spec_l5Add N ps (xsss.getD 0 []) _ _ (us 0) u W (hv.old g) ((hc 0 (by omega)).2.old g) hu hps q1 s1 (fun k hk => ?_)
        obtain ⟨p1, p2⟩ := poly_parts (q2 k hk)
        obtain ⟨r1, r2⟩ := poly_parts (s2 k hk)
        have := hpb k hk
        refine ⟨by omega, by omega, this, fun i hi => ?_⟩
        have := p2 i hi
        have := r2 i (by omega)
        omega
      · rw [hlen] at hj
        have e1 : Z.getD j [] = xsss.getD j [] := by
          have h2 : j < max xsss.length (lfZ (dmF (prodN P) Tn) N.toNat ps ss).length := by rw [lfZ_len]; omega
          rw [eZ, sumZ_get _ _ _ _ h2, if_pos hj]
          by_cases hj2 : j < 2
          · obtain rfl : j = 1 := by omega
            rw [if_pos (by rw [lfZ_len]; omega), lfZ_1]
            have hr1 := hB 1 hj
            rw [show N = ((N.toNat : Nat) : Int) by omega] at hr1
            exact add_zeroR (rw_parts hr1).1 (okX_rw hr1)
          · rw [if_neg (by rw [lfZ_len]; omega)]
        rw [e1]
        obtain ⟨s1, s2⟩ := hown _ (hB j hj)
        exact spec_l9Own (xsss.getD j []) (us j) W ((hc j hj).2.old g) s1 s2
set_option maxRecDepth 100000 in
theorem AddPlain_any (N T E : Int) (xs : List Int) (xsss : List (List (List Int))) (ss : List Int) (v u t : Value) (w : World) (hv : Row w v xs) (hl : xs.length ≤ 9223372036854775807) (hx : ∀ x ∈ xs, -9223372036854775808 ≤ x ∧ x ≤ 9223372036854775807) (hu : RowT w u xsss) (hs : xsss.length ≤ 9223372036854775807) (hsr : ∀ r ∈ xsss, r.length ≤ 9223372036854775807 ∧ ∀ q ∈ r, q.length ≤ 9223372036854775807) (ht : Row w t ss) (hts : ss.length ≤ 9223372036854775807) (hP : PrsW w) (hT : TabW w) :
    Calls Tryz.prog 7 #[.agg #[.int .i64 N, .int .i64 T, .int .i64 E, v], .agg #[u], t] w fun e w' => e = .returned (.bool true) ∧ Old w w' := by
  obtain ⟨a0, c0, rfl⟩ := hv.slice
  obtain ⟨a1, c1, eu⟩ := hu.slice
  obtain ⟨a2, c2, et⟩ := ht.slice
  subst eu et
  have bnd : ∀ {A : Prop}, ¬ (1048576 : Int) < (ss.length : Int) → ¬ leftN 1048576 xs.length < 0 → ¬ leftTT (leftN 1048576 xs.length) xsss < 0 → (xs.length ≤ 1048576 → xsss.length ≤ 1048576 → (∀ r ∈ xsss, r.length ≤ 1048576 ∧ ∀ q ∈ r, q.length ≤ 1048576) → offT xsss xsss.length ≤ 1048576 → ss.length ≤ 1048576 → A) → A := fun h2 h0 h1 k => by
    obtain ⟨q1, q2, q3⟩ := leftN_ok h0 (by omega)
    obtain ⟨p1, p2, p3, p4, p5⟩ := leftTT_ok q3 h1
    exact k (by omega) (by omega) (fun r hr => by
      have := p5 r hr
      exact ⟨by omega, fun q hq => by have := this.2 q hq; omega⟩) (by omega) (by omega)
  obtain ⟨Z, ok, hy, hn, z1, z2⟩ : ∃ (Z : List (List (List Int))) (ok : Bool), ((prB N T E xs && ciB N xs xsss && polyB T N ss) = true → Z = sumZ xs xsss (lfZ (dmF (prodN (xs.map Int.toNat)) T.toNat) N.toNat xs ss) ∧ ok = true) ∧ ((prB N T E xs && ciB N xs xsss && polyB T N ss) = false → Z = [] ∧ ok = false) ∧ Z.length ≤ 3 ∧ ∀ r ∈ Z, r.length ≤ 6 ∧ ∀ q ∈ r, q.length ≤ 16 := by
    cases h : (prB N T E xs && ciB N xs xsss && polyB T N ss)
    · exact ⟨[], false, (fun h => by cases h), (fun _ => ⟨rfl, rfl⟩), by simp, fun r hr => by cases hr⟩
    · rw [Bool.and_eq_true, Bool.and_eq_true] at h
      obtain ⟨⟨h1, h2⟩, h3⟩ := h
      obtain ⟨hz4, hbb, _⟩ := sp_ring (prB_sp h1)
      obtain ⟨hsl, hsv⟩ := poly_parts h3
      have hpb : ∀ k, k < xs.length → 2 ≤ xs.getD k 0 ∧ xs.getD k 0 ≤ 268435456 := fun k hk => pm_bd ((bas_at hbb).2 k hk)
      have := sumZ_row (N := N) (by omega) (bas_at hbb).1.2 h2 (lfZ_ci (N := N) (m := dmF (prodN (xs.map Int.toNat)) T.toNat) (by omega) hsl hpb)
      exact ⟨sumZ xs xsss (lfZ (dmF (prodN (xs.map Int.toNat)) T.toNat) N.toNat xs ss), true, (fun _ => ⟨rfl, rfl⟩), (fun h => by cases h), this.1, fun r hr => ⟨by have := (this.2 r hr).1; have := (bas_at hbb).1.2; omega, (this.2 r hr).2⟩⟩
  have ho : offT Z Z.length ≤ 288 := by
    have := offT_bd Z 6 16 z2
    omega
  have z3 : ∀ r ∈ Z, r.length ≤ 1048576 ∧ ∀ q ∈ r, q.length ≤ 1048576 := fun r hr => by
    have := z2 r hr
    exact ⟨by omega, fun q hq => by have := this.2 q hq; omega⟩
  refine law9_AddPlain w N T E xs.length a0 c0 xsss.length a1 c1 ss.length a2 c2 Z.length ok (leftN 1048576 xs.length) (leftTT (leftN 1048576 xs.length) xsss)
    (fun _ W g => kp_sz N T E a0 xs.length c0 1048576 W hl (by omega) (by omega))
    (fun _ h0 W g => by
      obtain ⟨q1, q2, q3⟩ := leftN_ok h0 (by omega)
      exact kc_sz xsss _ _ W (hu.old g) hs hsr q3 (by omega))
    (XP N T E xs) (far_XP N T E xs) shape_XP (fun h2 h0 h1 W g => bnd h2 h0 h1 fun h3 _ _ _ _ => kp_to N T E xs _ W (hv.old g) h3) (fun h2 h0 h1 W lo hi g lo' hi' g' k k' => bnd h2 h0 h1 fun h3 _ _ _ _ => kp_eq N T E xs W lo hi g lo' hi' g' k k' (by omega))
    (1 + xs.length) (by omega) (fun h2 h0 h1 W lo hi g k => bnd h2 h0 h1 fun h3 _ _ _ _ => kp_mark N T E xs 1 W lo hi g k h3 (by omega) (by omega))
    (XC xsss) (far_XC xsss) shape_XC (fun h2 h0 h1 W g => bnd h2 h0 h1 fun _ h3 h4 _ _ => kc_to xsss _ W (hu.old g) h3 h4) (fun h2 h0 h1 W lo hi g lo' hi' g' k k' => bnd h2 h0 h1 fun _ h3 h4 _ _ => kc_eq xsss W lo hi g lo' hi' g' k k' h3 h4)
    (1 + xs.length + offT xsss xsss.length) (by omega) (fun h2 h0 h1 W lo hi g k => bnd h2 h0 h1 fun h2 h3 h4 h5 _ => (kc_mark xsss (1 + xs.length) W lo hi g k h3 h4 (by omega) (by omega)).mono (fun e w' h => ⟨h.1, h.2.1⟩))
    (XI ss) (far_XI ss) shape_XI (fun h2 h0 h1 W g => bnd h2 h0 h1 fun _ _ _ _ h5 => ki_to ss _ W (ht.old g) h5) (fun h2 h0 h1 W lo hi g lo' hi' g' k k' => bnd h2 h0 h1 fun _ _ _ _ h5 => ki_eq ss W lo hi g lo' hi' g' k k' (by omega))
    (1 + xs.length + offT xsss xsss.length + ss.length) (by omega) (fun h2 h0 h1 W lo hi g k => bnd h2 h0 h1 fun h2 h3 h4 h5 h6 => ki_mark ss (1 + xs.length + offT xsss xsss.length) W lo hi g k h6 (by omega) (by omega))
    (XC Z) (far_XC _) shape_XC (XC Z) (far_XC _) shape_XC (XCm 1 Z) (far_XCm _ _) shape_XCm
    (fun h2 h0 h1 W lo hi g lo1 hi1 g1 lo2 hi2 g2 k k1 k2 q => bnd h2 h0 h1 fun _ h3 h4 _ _ => ?_) (fun h2 h0 h1 W lo hi g lo1 hi1 g1 lo2 hi2 g2 k k1 k2 q => bnd h2 h0 h1 fun _ h3 h4 _ _ => ?_)
    (fun h2 h0 h1 W lo hi p lo' hi' p' k k' => kc_eq Z W lo hi p lo' hi' p' k k' (by omega) z3)
    (1 + offT Z Z.length) (by omega) (fun h2 h0 h1 W lo hi p k => kc_mark Z 1 W lo hi p k (by omega) z3 (by omega) (by omega))
    (fun h2 h0 h1 W lo hi p k => kc_held Z 1 W lo hi p k (by omega) z3 (by omega) (by omega))
  · obtain ⟨a, c, rfl, o, f⟩ := k
    obtain ⟨a', c', rfl, o'⟩ := k1
    obtain ⟨a'', c'', rfl, o'', f''⟩ := k2
    exact spec_AddPlain_any N T E xs xsss ss _ _ _ W o.row f o'.rowT o''.row hts hl h3 h4 hx Z ok hy hn
  · obtain ⟨a, c, rfl, o, f⟩ := k
    obtain ⟨a', c', rfl, o'⟩ := k1
    obtain ⟨a'', c'', rfl, o'', f''⟩ := k2
    exact impl_AddPlain N T E xs xsss ss _ _ _ W lo1 hi1 (hP.old q) (hT.old q) o.row f o' o''.row hts hl h3 h4 Z ok hy hn
end Go.Proofs.YtakleianimcmdaaGreatDoor
