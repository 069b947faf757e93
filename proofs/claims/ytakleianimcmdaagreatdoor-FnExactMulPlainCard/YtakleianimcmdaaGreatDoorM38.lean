/- Proved: several texts in one: what each proves is said ahead of it. -/
import Derived.Test.YtakleianimcmdaaGreatDoorM26
import Derived.Test.YtakleianimcmdaaGreatDoorM18
import Derived.Handy
import Derived.Test.YtakleianimcmdaaGreatDoorM37
import Derived.Test.YtakleianimcmdaaGreatDoorAdl2
import Derived.Test.YtakleianimcmdaaGreatDoorM12
import Derived.Deep.RegionHeld3
import Derived.Test.YtakleianimcmdaaGreatDoorM23
import Derived.Test.YtakleianimcmdaaGreatDoorM17
import Derived.Test.YtakleianimcmdaaGreatDoorTma
import Derived.Test.YtakleianimcmdaaGreatDoorM40
import Derived.Test.YtakleianimcmdaaGreatDoorM13
import Derived.Test.YtakleianimcmdaaGreatDoorLawMulPlain
import Derived.Test.YtakleianimcmdaaGreatDoorKCb
import Derived.Test.YtakleianimcmdaaGreatDoorM35
/- Proved: the contract of the program's NegCipher. -/
namespace Go.Proofs.YtakleianimcmdaaGreatDoor
open Go.ChangeShapes Go.WideShapes Go.ChangeAt Go.RowKit
set_option linter.unusedVariables false
set_option linter.unusedSimpArgs false
theorem rw_parts {N : Int} {ps : List Int} {xss : List (List Int)} (h : rwB N ps xss = true) : xss.length = ps.length ∧ ∀ k, k < ps.length → polyB (ps.getD k 0) N (xss.getD k []) = true := by
  unfold rwB at h
  rw [Bool.and_eq_true] at h
  refine ⟨of_decide_eq_true h.1, fun k hk => ?_⟩
  have h2 := h.2
  unfold rwA at h2
  exact of_decide_eq_true h2 k hk (Nat.zero_le _)
theorem poly_parts {p N : Int} {xs : List Int} (h : polyB p N xs = true) : (xs.length : Int) = N ∧ ∀ i, i < xs.length → 0 ≤ xs.getD i 0 ∧ xs.getD i 0 < p := by
  unfold polyB at h
  rw [Bool.and_eq_true] at h
  refine ⟨of_decide_eq_true h.1, fun i hi => ?_⟩
  have h2 := List.all_eq_true.1 h.2 xs[i] (List.getElem_mem hi)
  rw [show xs.getD i 0 = xs[i] by simp [List.getD, hi]]
  simp [resB] at h2
  omega
def CiA (zsss : List (List (List Int))) (ok : Bool) (w : World) (e : Ending) (w' : World) : Prop := ∃ r0, e = .returned (.tuple #[.agg r0, .bool ok]) ∧ Old w w' ∧ XC zsss w' w.heap.size w'.heap.size r0
theorem XC.nil2 {W : World} {lo hi : Nat} (h : hi ≤ W.heap.size) : XC [] W lo hi #[.slice none 0 0] := ⟨none, 0, rfl, Ows.nil h⟩
theorem ci_put {W : World} {k : Nat} {x : Value} {t : TypeId} (h : Bk W k #[x] t) (y : Value) : Bk (W.setCell ⟨k, 0, none⟩ y) k #[y] t := (heap_setCell_same W k 0 _ _ y h).trans rfl
theorem rd_true {m : Nat} {B : Nat → Bool} (h : rdB m B = true) : (2 ≤ m ∧ m ≤ 3) ∧ ∀ j, j < m → B j = true := by
  unfold rdB at h
  rw [Bool.and_eq_true] at h
  exact ⟨of_decide_eq_true h.1, of_decide_eq_true h.2⟩
end Go.Proofs.YtakleianimcmdaaGreatDoor
/- Proved: a Part times the rows of a plain, by rows. -/
namespace Go.Proofs.YtakleianimcmdaaGreatDoor
open Go.ChangeShapes Go.WideShapes Go.ChangeAt Go.RowKit
set_option linter.unusedVariables false
set_option linter.unusedSimpArgs false
open M1
theorem toZ_bk (ys : List Nat) : (toZ ys).map Int.toNat = ys := by
  rw [toZ, List.map_map]
  refine (List.map_congr_left fun x hx => ?_).trans (List.map_id ys)
  simp
def mulL (N : Nat) (ps : List Int) (xss yss : List (List Int)) : List (List Int) := (List.range ps.length).map fun k => toZ (muO (ps.getD k 0).toNat N ((xss.getD k []).map Int.toNat) ((yss.getD k []).map Int.toNat) N)
theorem mulL_len (N : Nat) (ps : List Int) (xss yss : List (List Int)) : (mulL N ps xss yss).length = ps.length := by simp [mulL]
theorem mulL_get (N : Nat) (ps : List Int) (xss yss : List (List Int)) (k : Nat) (hk : k < ps.length) : (mulL N ps xss yss).getD k [] = toZ (muO (ps.getD k 0).toNat N ((xss.getD k []).map Int.toNat) ((yss.getD k []).map Int.toNat) N) := by
  simp [mulL, List.getD, hk]
theorem smR_toZ (P : Nat) (ss : List Int) (hP : 0 < P) : ∃ ys : List Nat, smR P ss = toZ ys ∧ ys.length = ss.length ∧ ∀ y ∈ ys, y < P := by
  refine ⟨ss.map (fun x => (x % (P : Int)).toNat), ?_, by simp, fun y hy => ?_⟩
  · unfold smR toZ
    rw [List.map_map]
    refine List.map_congr_left fun x hx => ?_
    have := Int.emod_nonneg x (show (P : Int) ≠ 0 by omega)
    simp
    omega
  · rw [List.mem_map] at hy
    obtain ⟨x, _, rfl⟩ := hy
    have := Int.emod_nonneg x (show (P : Int) ≠ 0 by omega)
    have := Int.emod_lt_of_pos x (show (0 : Int) < P by omega)
    omega
def RtS (N : Nat) (ps : List Int) (Rf : Nat → Int) : Prop := ∀ k, k < ps.length → ∃ P R : Nat, ps.getD k 0 = P ∧ Rf k = R ∧ R < P ∧ (2 ≤ P ∧ P ≤ 268435456) ∧ P % 2 = 1 ∧ Cg P ((R : Int) ^ (2 * N)) 1 ∧ Cg P ((R : Int) ^ N) (-1)
theorem mul_clo (E : Thing) (a1 a2 : Option Addr) (l1 c1 l2 c2 kb : Nat) (w : World) (bK : Bk w kb #[.slice a1 l1 c1] 109)
    (KJ : Calls Tryz.prog 75 #[.slice a2 l2 c2, .slice a1 l1 c1, .func (.func 86) #[] #[]] w fun e w' => ∃ v', e = .returned v' ∧ Old w w' ∧ Ows E w' w.heap.size w'.heap.size [v']) :
    Calls Tryz.prog 85 #[.slice a2 l2 c2, .pointer (some ⟨kb, 0, none⟩)] w fun e w' => ∃ v', e = .returned v' ∧ Old w w' ∧ Ows E w' w.heap.size w'.heap.size [v'] := by
  have HK : Hid (Calls Tryz.prog 75 #[.slice a2 l2 c2, .slice a1 l1 c1, .func (.func 86) #[] #[]] w fun e w' => ∃ v', e = .returned v' ∧ Old w w' ∧ Ows E w' w.heap.size w'.heap.size [v']) := KJ
  have z0 := bK.c (i := 0) rfl
  clear KJ bK
  go_enter Tryz.func85, Tryz.ntmps85
  go_wp2_with fail
  refine HK.out.mono ?_
  rintro e w1 ⟨v', rfl, g1, o1⟩
  have HG : Hid (Old w w1 ∧ Ows E w1 w.heap.size w1.heap.size [v']) := ⟨g1, o1⟩
  clear g1 o1 HK z0
  go_wp2_with fail
  go_ret
  exact ⟨v', rfl, HG.out.1, HG.out.2⟩
theorem mul_part (Nn : Nat) (ps : List Int) (Rf : Nat → Int) (xss : List (List Int)) (ns : List Int) (uf : Nat → Option Addr) (cf : Nat → Nat) (gn : Nat) (v1 v2 : Value) (us : Nat → Value) (w : World) (hT : TabW w) (hS : Sz4 Nn) (hps : 1 ≤ ps.length ∧ ps.length ≤ 6) (hrt : RtS Nn ps Rf) (hrw : rwB Nn ps xss = true) (hns : ns.length = Nn)
    (hr : RdR w v1 ps.length Nn false ps Rf us) (hus : ∀ k, k < ps.length → Row w (us k) ((smS ps ns).getD k []) ∧ ∃ x c, us k = .slice x ((smS ps ns).getD k []).length c) (hp : RRs w gn Nn false ps Rf uf ps.length) (hra : RowsAt w v2 ps xss uf cf) :
    Calls Tryz.prog 75 #[.slice (some ⟨gn, 0, none⟩) ps.length ps.length, v1, .func (.func 86) #[] #[]] w fun e w' => ∃ v', e = .returned v' ∧ Old w w' ∧ Ows (TS 118 5 ps.length (elR Nn false ps Rf (mulL Nn ps xss (smS ps ns)))) w' w.heap.size w'.heap.size [v'] := by
  obtain ⟨hxl, hpoly⟩ := rw_parts hrw
  obtain ⟨bb, cc, _, hbb, hrow⟩ := hra
  have hN : 2 ≤ Nn ∧ Nn ≤ 16 := by unfold Sz4 at hS; omega
  have hr2 := hp.rd
  refine (joined_times Nn false ps Rf _ _ ps Rf false us v1 ps.length w hr2 (fun k hk => ⟨_, _, _, rfl⟩) hr (fun k hk => ?_) (by omega) (mulL Nn ps xss (smS ps ns)) (fun k hk W g => ?_)).mono fun e w' h => ⟨_, h.1, h.2.1, h.2.2⟩
  · obtain ⟨_, x, c, e⟩ := hus k hk
    exact ⟨x, _, c, e⟩
  · obtain ⟨r1, x, c, e⟩ := hus k hk
    have hpk := hpoly k hk
    obtain ⟨P, R, eP, eR, hlt, hP2, ho, t1, t2⟩ := hrt k hk
    rw [eP] at hpk
    obtain ⟨ys, e4, la, ha⟩ := polyB_yes hpk
    obtain ⟨zs, e5, lb, hb⟩ := smR_toZ P ns (by omega)
    have lz : ((smS ps ns).getD k []).length = Nn := by rw [smS_get _ _ _ hk, smR_len]; exact hns
    rw [lz] at e
    rw [e] at r1 ⊢
    rw [smS_get _ _ _ hk, eP, e5] at r1
    obtain ⟨_, hcf, r2⟩ := hrow k (by omega)
    have hlx : (xss.getD k []).length = Nn := by rw [e4, toZ_len]; exact la
    have r2' : Row W (.slice (uf k) Nn Nn) (toZ ys) := by
      rw [hlx] at r2
      rw [← e4]
      exact (r2.recap (by intro h; rw [h] at hlx; simp at hlx; omega)).old g
    show Calls _ _ #[.agg #[.int .i64 (ps.getD k 0), .int .i64 (Nn : Int), .int .i64 (Rf k), .bool false, .slice (uf k) ((Nn : Int).toNat) ((Nn : Int).toNat)], .agg #[.int .i64 (ps.getD k 0), .int .i64 (Nn : Int), .int .i64 (Rf k), .bool false, .slice x Nn c]] _ _
    rw [show ((Nn : Int).toNat) = Nn by omega]
    rw [mulL_get _ _ _ _ _ hk, smS_get _ _ _ hk, eP, eR, e4, e5, toZ_bk, toZ_bk, show ((P : Int).toNat) = P by omega]
    refine impl_timesA P R P Nn R Nn false _ (uf k) x Nn Nn Nn c W (fun W' g' => ?_) (by rw [toZ_len, muO_len]) (by omega)
    exact impl_product P Nn R ys zs _ _ W' (hT.old (Old.trans g g')) (r2'.old g') (r1.old (Old.trans g g')) hP2 ho hS hlt la (lb.trans hns) ha hb t1 t2
end Go.Proofs.YtakleianimcmdaaGreatDoor
/- Proved: the contract of the program's MulPlain. -/
namespace Go.Proofs.YtakleianimcmdaaGreatDoor
open Go.ChangeShapes Go.WideShapes Go.ChangeAt Go.RowKit
set_option linter.unusedVariables false
set_option linter.unusedSimpArgs false
open M1
theorem rts_of {N : Nat} {ps : List Int} {Rf : Nat → Int} (hR : ∀ k, RingOk (ps.getD k 0) N → ((0 ≤ Rf k ∧ Rf k < ps.getD k 0) ∧ (∀ W, PrsW W → TabW W → Calls Tryz.prog 183 #[.int .i64 (ps.getD k 0), .int .i64 N] W fun e w' => e = .returned (.tuple #[.agg #[.int .i64 (ps.getD k 0), .int .i64 N, .int .i64 (Rf k)], .bool true]) ∧ Old W w')) ∧ ∃ P M R : Nat, ps.getD k 0 = P ∧ (N : Int) = M ∧ Rf k = R ∧ R < P ∧ RingOk P M ∧ (F1.Pr P → Rt P (2 * M) R)) (h : spB N ps = true) : RtS N ps Rf := fun k hk => by
  obtain ⟨s1, s2, s3⟩ := sp_ring h
  obtain ⟨_, P, M, R, e1, e2, e3, hlt, hok, hrt⟩ := hR k (s3 k hk)
  obtain rfl : N = M := by omega
  have b1 := modB_yes hok.md
  have hP : 2 ≤ P ∧ P ≤ 268435456 := by omega
  obtain ⟨r1, r2⟩ := (hrt (ring_pr hok)).cg hP.1
  refine ⟨P, R, e1, e3, hlt, hP, ?_, r1, r2⟩
  have q1 := hok.dv
  have q2 := hok.sz
  rcases q2 with e | e | e | e <;> rw [e] at q1 <;> omega
theorem rd_put {N : Int} {ps : List Int} {Rf : Nat → Int} {zss : List (List Int)} {m : Nat} {W w3 : World} {lo hi kb : Nat} {a : Option Addr} {n c : Nat} (h0 : 0 < m) (h : Ows (TS 118 5 m (elR N false ps Rf zss)) W lo hi [.slice a n c]) (hb : W.heap[kb]? = some (.cells #[.slice none 0 0] 109 (0, 0))) (g : Old w3 W) (hk : w3.heap.size ≤ kb) :
    ∃ us : Nat → Value, RdR (W.setCell ⟨kb, 0, none⟩ (.slice a n c)) (.slice a n c) m N false ps Rf us ∧ (∀ k, k < m → Row (W.setCell ⟨kb, 0, none⟩ (.slice a n c)) (us k) (zss.getD k []) ∧ ∃ x c, us k = .slice x (zss.getD k []).length c) ∧ Bk (W.setCell ⟨kb, 0, none⟩ (.slice a n c)) kb #[.slice a n c] 109 ∧ Old w3 (W.setCell ⟨kb, 0, none⟩ (.slice a n c)) := by
  obtain ⟨us, ⟨b, cap, e, hbl, hc⟩, hus⟩ := Ows.rd h0 h
  have noI : ∀ o (x : Int), W.cell? ⟨kb, o, none⟩ ≠ some (.int .i64 x) := fun o x hx => by
    rw [cell_of_row _ _ _ _ _ _ hb] at hx
    rcases o with _ | o
    · simp at hx
    · simp at hx
  have hbk : b ≠ kb := fun e => by
    subst e
    exact noI _ _ (hc 0 h0).1
  have oth : ∀ b' o, b' ≠ kb → (W.setCell ⟨kb, 0, none⟩ (.slice a n c)).cell? ⟨b', o, none⟩ = W.cell? ⟨b', o, none⟩ := fun b' o hne => World.cell?_of_block (heap_setCell_other W ⟨kb, 0, none⟩ b' _ hne)
  refine ⟨us, ⟨b, cap, e, by simpa using hbl, fun k hk => ?_⟩, fun k hk => ⟨?_, (hus k hk).2⟩, (heap_setCell_same W kb 0 _ _ _ hb).trans rfl, g.own (p := ⟨kb, 0, none⟩) hk _⟩
  · obtain ⟨h1, h2, h3, h4, h5⟩ := hc k hk
    refine ⟨?_, ?_, ?_, ?_, ?_⟩ <;> rw [oth _ _ hbk] <;> assumption
  · rcases (hus k hk).1 with hr | ⟨b', o', cap', e', hb', h0', hc'⟩
    · exact .inl hr
    · have hne : b' ≠ kb := fun e => by
        subst e
        exact noI _ _ (hc' 0 h0')
      exact .inr ⟨b', o', cap', e', by simpa using hb', h0', fun j hj => by rw [oth _ _ hne]; exact hc' j hj⟩
def mulZ (N : Nat) (ps : List Int) (xsss : List (List (List Int))) (yss : List (List Int)) : List (List (List Int)) := xsss.map (fun xss => mulL N ps xss yss)
theorem mulZ_len (N : Nat) (ps : List Int) (xsss : List (List (List Int))) (yss : List (List Int)) : (mulZ N ps xsss yss).length = xsss.length := by simp [mulZ]
theorem mulZ_get (N : Nat) (ps : List Int) (xsss : List (List (List Int))) (yss : List (List Int)) (j : Nat) (hj : j < xsss.length) : (mulZ N ps xsss yss).getD j [] = mulL N ps (xsss.getD j []) yss := by simp [mulZ, List.getD, hj]
set_option maxRecDepth 100000 in
set_option maxHeartbeats 4000000 in
theorem impl_MulPlain (N T E : Int) (ps : List Int) (xsss : List (List (List Int))) (ss : List Int) (v u u2 : Value) (w : World) (lo hi : Nat) (hP : PrsW w) (hT : TabW w) (hv : Row w v ps) (hf : Fit v) (hu : Ows (TTT xsss) w lo hi [u]) (hu2 : Row w u2 ss) (hl2 : ss.length ≤ 9223372036854775807) (hlp : ps.length ≤ 9223372036854775807) (hl : xsss.length ≤ 1048576) (hr : ∀ r ∈ xsss, r.length ≤ 1048576 ∧ ∀ q ∈ r, q.length ≤ 1048576) (Z : List (List (List Int))) (ok : Bool) (hy : (prB N T E ps && ciB N ps xsss && polyB T N ss) = true → Z = mulZ N.toNat ps xsss (smS ps (nearL T ss)) ∧ ok = true) (hn : (prB N T E ps && ciB N ps xsss && polyB T N ss) = false → Z = [] ∧ ok = false) :
    Calls Tryz.prog 35 #[.agg #[.int .i64 N, .int .i64 T, .int .i64 E, v], .agg #[u], u2] w (CiA Z ok w) := by
  have HY : Hid ((prB N T E ps && ciB N ps xsss && polyB T N ss) = true → Z = mulZ N.toNat ps xsss (smS ps (nearL T ss)) ∧ ok = true) := hy
  have HNN : Hid ((prB N T E ps && ciB N ps xsss && polyB T N ss) = false → Z = [] ∧ ok = false) := hn
  clear hy hn
  obtain ⟨Rf, hRb⟩ := Rings_rt N ps
  have hRf := fun k hk => (hRb k hk).1
  have HRB : Hid (∀ Nn : Nat, N = Nn → spB N ps = true → RtS Nn ps Rf) := fun Nn e hs => by
    subst e
    exact rts_of hRb hs
  have HU2 : Hid (Row w u2 ss) := hu2
  have HTW : Hid (TabW w) := hT
  obtain ⟨a2, c2', eu2⟩ := hu2.slice
  have K1 := fun W (g : Old w W) => impl_reckonerOf N T E ps Rf v W (hP.old g) (hT.old g) (hv.old g) hf hlp hRf
  obtain ⟨a0, c0, ev⟩ := hv.slice
  obtain ⟨a1, c1, eu⟩ := hu.rowT.slice
  subst ev eu eu2
  obtain ⟨au, cu, uf, cf, hpa⟩ : ∃ au cu uf cf, 0 < xsss.length → ∃ b, a1 = some ⟨b, 0, none⟩ ∧ PaT w b ps xsss au cu uf cf := by
    rcases Nat.eq_zero_or_pos xsss.length with h0 | h0
    · exact ⟨fun _ => none, fun _ => 0, fun _ _ => none, fun _ _ => 0, fun h => by omega⟩
    · obtain ⟨_, B, hT, _⟩ := hu
      obtain ⟨b, cap, au, cu, uf, cf, e, hp⟩ := TTT.at ps hT h0
      simp only [Value.slice.injEq, true_and] at e
      exact ⟨au, cu, uf, cf, fun _ => ⟨b, e.1, hp⟩⟩
  have HPA : Hid (0 < xsss.length → ∃ b, a1 = some ⟨b, 0, none⟩ ∧ PaT w b ps xsss au cu uf cf) := hpa
  have HR : Hid (∀ r ∈ xsss, r.length ≤ 1048576 ∧ ∀ q ∈ r, q.length ≤ 1048576) := hr
  have HA : Hid (Old w (((w.alloc (.cells #[.int .i64 N, .int .i64 T, .int .i64 E, .slice a0 ps.length c0] 28)).alloc (.cells #[.slice a1 xsss.length c1] 42)).alloc (.cells #[.slice none 0 0] 42))) := (((Old.refl w).alloc _).alloc _).alloc _
  have BB : Hid (Bk (((w.alloc (.cells #[.int .i64 N, .int .i64 T, .int .i64 E, .slice a0 ps.length c0] 28)).alloc (.cells #[.slice a1 xsss.length c1] 42)).alloc (.cells #[.slice none 0 0] 42)) (w.heap.size + 1) #[.slice a1 xsss.length c1] 42) := (Bk.new' _ _ _ (by simp)).alloc _
  have BR : Hid (Bk (((w.alloc (.cells #[.int .i64 N, .int .i64 T, .int .i64 E, .slice a0 ps.length c0] 28)).alloc (.cells #[.slice a1 xsss.length c1] 42)).alloc (.cells #[.slice none 0 0] 42)) (w.heap.size + 1 + 1) #[.slice none 0 0] 42) := Bk.new' _ _ _ (by simp)
  clear hv hf hu hP hT hRf hr hpa hRb hu2
  go_enter Tryz.func35, Tryz.ntmps35
  go_wp2_with fail
  refine (K1 _ HA.out).mono ?_
  rintro e w1 ⟨g1, h⟩
  have HG1 : Hid (Old w w1) := Old.trans HA.out g1
  have B1 : Hid (Bk w1 (w.heap.size + 1) #[.slice a1 xsss.length c1] 42) := BB.out.old g1
  have R1 : Hid (Bk w1 (w.heap.size + 1 + 1) #[.slice none 0 0] 42) := BR.out.old g1
  clear g1 K1 BB BR HA
  rcases h with ⟨hB, rfl⟩ | ⟨hB, g, a, l, c, hg, rfl, hrg, _⟩
  · have HB : Hid (Z = [] ∧ ok = false) := HNN.out (by rw [hB]; rfl)
    have HG2 : Hid (Old w (w1.alloc (.cells rk0 73))) := HG1.out.alloc _
    have z0 := (B1.out.alloc (.cells rk0 73)).c (i := 0) rfl
    have R2 : Hid (Bk (w1.alloc (.cells rk0 73)) (w.heap.size + 1 + 1) #[.slice none 0 0] 42) := R1.out.alloc _
    have c2 := fun W (q : Old w W) => read_nil 0 0 0 none 0 0 false none 0 0 a1 c1 W ps xsss au cu uf cf hl (fun h0 => by
      obtain ⟨b, e, hp⟩ := HPA.out h0
      exact ⟨b, e, hp.old q⟩)
    clear hB
    go_wp2_with fail
    refine (c2 _ HG2.out).mono ?_
    intro e w2 h
    obtain ⟨g2, x, rfl⟩ := h.any
    have HG3 : Hid (Old w w2) := Old.trans HG2.out g2
    have R3 : Hid (Bk w2 (w.heap.size + 1 + 1) #[.slice none 0 0] 42) := R2.out.old g2
    have y0 := R3.out.c (i := 0) rfl
    have f0 : w2.frozen? ⟨w.heap.size + 1 + 1, 0, none⟩ = false := frozen_of_row _ _ _ _ _ R3.out
    clear g2 h c2
    go_wp2_with fail
    have q0 := (ci_put R3.out (.slice none 0 0)).c (i := 0) rfl
    refine bodyPost_ret (v := .tuple #[.agg #[.slice none 0 0], .bool false]) (by simp [results, Tryz.results35, go_sem, q0]) rfl ?_
    rw [HB.out.1, HB.out.2]
    exact ⟨_, rfl, HG3.out.own (p := ⟨w.heap.size + 1 + 1, 0, none⟩) (by simp; omega) _, XC.nil2 (Nat.le_refl _)⟩
  · have hsp := prB_sp hB
    have HG2 : Hid (Old w (w1.alloc (.cells #[.int .i64 N, .int .i64 T, .int .i64 E, .slice a0 ps.length c0, .slice (some ⟨g, 0, none⟩) ps.length ps.length, .bool false, .slice a l c] 73))) := HG1.out.alloc _
    have z0 := (B1.out.alloc (.cells #[.int .i64 N, .int .i64 T, .int .i64 E, .slice a0 ps.length c0, .slice (some ⟨g, 0, none⟩) ps.length ps.length, .bool false, .slice a l c] 73)).c (i := 0) rfl
    have R2 : Hid (Bk (w1.alloc (.cells #[.int .i64 N, .int .i64 T, .int .i64 E, .slice a0 ps.length c0, .slice (some ⟨g, 0, none⟩) ps.length ps.length, .bool false, .slice a l c] 73)) (w.heap.size + 1 + 1) #[.slice none 0 0] 42) := R1.out.alloc _
    have HRG : Hid (Rgs (w1.alloc (.cells #[.int .i64 N, .int .i64 T, .int .i64 E, .slice a0 ps.length c0, .slice (some ⟨g, 0, none⟩) ps.length ps.length, .bool false, .slice a l c] 73)) g N ps Rf ps.length) := hrg.old ((Old.refl w1).alloc _)
    have BX : Hid (Bk (w1.alloc (.cells #[.int .i64 N, .int .i64 T, .int .i64 E, .slice a0 ps.length c0, .slice (some ⟨g, 0, none⟩) ps.length ps.length, .bool false, .slice a l c] 73)) w1.heap.size #[.int .i64 N, .int .i64 T, .int .i64 E, .slice a0 ps.length c0, .slice (some ⟨g, 0, none⟩) ps.length ps.length, .bool false, .slice a l c] 73) := Bk.new' w1 _ _ rfl
    have hs1 : w.heap.size + 3 ≤ w1.heap.size := by have := R1.out.lt; omega
    have c2 := fun W (q : Old w W) (hr : Rgs W g N ps Rf ps.length) => read_good N T E a0 ps.length c0 g false a l c a1 c1 W ps Rf xsss au cu uf cf hl HR.out (fun h0 => by
      obtain ⟨b, e, hp⟩ := HPA.out h0
      exact ⟨b, e, hp.old q⟩) hr hsp
    have HBB : Hid (prB N T E ps = true) := hB
    clear hB hrg hg
    go_wp2_with fail
    refine (c2 _ HG2.out HRG.out).mono ?_
    rintro e w2 ⟨g2, h⟩
    have HG3 : Hid (Old w w2) := Old.trans HG2.out g2
    have R3 : Hid (Bk w2 (w.heap.size + 1 + 1) #[.slice none 0 0] 42) := R2.out.old g2
    have BX3 : Hid (Bk w2 w1.heap.size #[.int .i64 N, .int .i64 T, .int .i64 E, .slice a0 ps.length c0, .slice (some ⟨g, 0, none⟩) ps.length ps.length, .bool false, .slice a l c] 73) := BX.out.old g2
    have HRG3 : Hid (Rgs w2 g N ps Rf ps.length) := HRG.out.old g2
    have y0 := R3.out.c (i := 0) rfl
    have f0 : w2.frozen? ⟨w.heap.size + 1 + 1, 0, none⟩ = false := frozen_of_row _ _ _ _ _ R3.out
    clear g2 c2 BX HRG R2 HG2 R1 HG1 z0 B1
    rcases h with ⟨hC, rfl⟩ | h
    · have HB : Hid (Z = [] ∧ ok = false) := HNN.out (by rw [HBB.out, show ciB N ps xsss = false from hC]; rfl)
      clear hC
      go_wp2_with fail
      have q0 := (ci_put R3.out (.slice none 0 0)).c (i := 0) rfl
      refine bodyPost_ret (v := .tuple #[.agg #[.slice none 0 0], .bool false]) (by simp [results, Tryz.results35, go_sem, q0]) rfl ?_
      rw [HB.out.1, HB.out.2]
      exact ⟨_, rfl, HG3.out.own (p := ⟨w.heap.size + 1 + 1, 0, none⟩) (by simp; omega) _, XC.nil2 (Nat.le_refl _)⟩
    · obtain ⟨hz4, hbb, _⟩ := sp_ring hsp
      obtain ⟨Nn, rfl⟩ : ∃ Nn : Nat, N = (Nn : Int) := ⟨N.toNat, by omega⟩
      have hNn : 2 ≤ Nn ∧ Nn ≤ 16 := by omega
      have hS4 : Sz4 Nn := by unfold Sz4; omega
      have hps := (bas_at hbb).1
      have hpb : ∀ k, k < ps.length → 2 ≤ ps.getD k 0 ∧ ps.getD k 0 ≤ 268435456 := fun k hk => pm_bd ((bas_at hbb).2 k hk)
      have hTT := prB_T HBB.out
      have HRT : Hid (RtS Nn ps Rf) := HRB.out Nn rfl hsp
      have c3 := fun W (q : Row W (.slice a2 ss.length c2') ss) => isPlain_any (Nn : Int) T E (.slice a0 ps.length c0) (.slice (some ⟨g, 0, none⟩) ps.length ps.length) (.bool false) (.slice a l c) rfl rfl rfl rfl ss _ W q hl2 (by omega) ⟨_, _, _, _, _, _, _, _, _, _, rfl, rfl, rfl, rfl⟩
      have x0 := BX3.out.c (i := 0) rfl
      have x1 := BX3.out.c (i := 1) rfl
      have x2 := BX3.out.c (i := 2) rfl
      have x3 := BX3.out.c (i := 3) rfl
      have x4 := BX3.out.c (i := 4) rfl
      have x5 := BX3.out.c (i := 5) rfl
      have x6 := BX3.out.c (i := 6) rfl
      have HPB : Hid (∀ k, k < ps.length → 2 ≤ ps.getD k 0 ∧ ps.getD k 0 ≤ 268435456) := hpb
      have HPS : Hid (1 ≤ ps.length ∧ ps.length ≤ 6) := hps
      cases hpl : polyB T Nn ss
      · have HCX : Hid (∃ m : Nat, 2 ≤ m ∧ m ≤ 3) := ⟨2, by omega, by omega⟩
        rw [hpl] at c3
        have HB : Hid (Z = [] ∧ ok = false) := HNN.out (by rw [hpl, Bool.and_false])
        rcases h with ⟨hC, hm, g0, g1, rfl, p0, p1⟩ | ⟨hC, hm, g0, g1, g2, rfl, p0, p1, p2⟩
        all_goals
          first | clear hC hm p0 p1 p2 | clear hC hm p0 p1
          clear y0 f0
          go_wp2_with fail
          refine (c3 _ (HU2.out.old HG3.out)).mono ?_
          rintro e w3 ⟨rfl, g3⟩
          have HG4 : Hid (Old w w3) := Old.trans HG3.out g3
          have R4 : Hid (Bk w3 (w.heap.size + 1 + 1) #[.slice none 0 0] 42) := R3.out.old g3
          have y0 := R4.out.c (i := 0) rfl
          have f0 : w3.frozen? ⟨w.heap.size + 1 + 1, 0, none⟩ = false := frozen_of_row _ _ _ _ _ R4.out
          clear g3 x0 x1 x2 x3 x4 x5 x6
          go_wp2_with fail
          have q0 := (ci_put R4.out (.slice none 0 0)).c (i := 0) rfl
          refine bodyPost_ret (v := .tuple #[.agg #[.slice none 0 0], .bool false]) (by simp [results, Tryz.results35, go_sem, q0]) rfl ?_
          rw [HB.out.1, HB.out.2]
          exact ⟨_, rfl, HG4.out.own (p := ⟨w.heap.size + 1 + 1, 0, none⟩) (by simp; omega) _, XC.nil2 (Nat.le_refl _)⟩
      · rw [hpl] at c3
        obtain ⟨hsl, hsv⟩ := poly_parts hpl
        have HSL : Hid (ss.length = Nn) := show ss.length = Nn by omega
        have HSV : Hid (∀ i, i < ss.length → 0 ≤ ss.getD i 0 ∧ ss.getD i 0 < T) := hsv
        have HEND : Hid (ciB Nn ps xsss = true → ∀ w' r0, Old w w' → XC (mulZ Nn ps xsss (smS ps (nearL T ss))) w' w.heap.size w'.heap.size r0 → CiA Z ok w (.returned (.tuple #[.agg r0, .bool true])) w') := fun hC w' r0 h1 h2 => by
          obtain ⟨e1, e2⟩ := HY.out (by rw [HBB.out, hC, hpl]; rfl)
          rw [e1, e2]
          exact ⟨r0, rfl, h1, h2⟩
        have HKN : Hid (∀ W, Old w W → Calls Tryz.prog 84 #[.agg #[.int .i64 (Nn : Int), .int .i64 T, .int .i64 E, .slice a0 ps.length c0, .slice (some ⟨g, 0, none⟩) ps.length ps.length, .bool false, .slice a l c], .slice a2 ss.length c2'] W fun e w' => ∃ v', e = .returned v' ∧ Old W w' ∧ Row w' v' (nearL T ss)) := fun W q => (impl_centredPlain Nn T E a0 ps.length c0 (some ⟨g, 0, none⟩) ps.length ps.length false a l c ss _ W (HU2.out.old q) (by have := HSL.out; omega) HSV.out hTT).mono fun e w' h => by
          obtain ⟨v', e1, e2, e3⟩ := h
          exact ⟨v', e1, e2, Own.row e3⟩
        have HKS : Hid (∀ W, Rgs W g Nn ps Rf ps.length → ∀ u, Row W u (nearL T ss) → Calls Tryz.prog 83 #[.slice (some ⟨g, 0, none⟩) ps.length ps.length, u] W fun e w' => ∃ g, e = .returned (.slice (some ⟨g, 0, none⟩) ps.length ps.length) ∧ Old W w' ∧ Ows (TS 118 5 ps.length (elR Nn false ps Rf (smS ps (nearL T ss)))) w' W.heap.size w'.heap.size [.slice (some ⟨g, 0, none⟩) ps.length ps.length]) := fun W hr u hu => (impl_smallRows Nn ps (nearL T ss) Rf g u W hr (by have := HPS.out; omega) hu (by rw [nearL_len]; have := HSL.out; omega) (fun i hi => by
            rw [nearL_len] at hi
            rw [nearL_get _ _ _ hi]
            have := nearF_bd hTT (HSV.out i hi)
            omega) (fun k hk => by have := HPB.out k hk; omega)).mono fun e w' h => by
          obtain ⟨g', _, e1, e2, e3⟩ := h
          exact ⟨g', e1, e2, e3⟩
        have HCJ : Hid (∀ (w4 : World) (gz : Nat) (kb : Nat) (us : Nat → Value), Old w2 w4 → RdR w4 (.slice (some ⟨gz, 0, none⟩) ps.length ps.length) ps.length Nn false ps Rf us → (∀ k, k < ps.length → Row w4 (us k) ((smS ps (nearL T ss)).getD k []) ∧ ∃ x c, us k = .slice x ((smS ps (nearL T ss)).getD k []).length c) → Bk w4 kb #[.slice (some ⟨gz, 0, none⟩) ps.length ps.length] 109 → ∀ j, j < xsss.length → rwB Nn ps (xsss.getD j []) = true → ∀ gp, PhG (w1.heap.size + 1) Nn ps Rf uf j w2 gp → ∀ W, Old w4 W → Calls Tryz.prog 85 #[.slice gp ps.length ps.length, .pointer (some ⟨kb, 0, none⟩)] W fun e w' => ∃ v', e = .returned v' ∧ Old W w' ∧ Ows (TS 118 5 ps.length (elR Nn false ps Rf ((mulZ Nn ps xsss (smS ps (nearL T ss))).getD j []))) w' W.heap.size w'.heap.size [v']) := fun w4 gz kb us q3 hrd hus bk j hj hrw gp hph W qW => by
          obtain ⟨gn, rfl, _, hrr⟩ := hph
          obtain ⟨b, _, hp⟩ := HPA.out (by omega)
          have hxl := (rw_parts hrw).1
          have hat := (hp.2 j hj).2 (by have := HPS.out; omega)
          rw [mulZ_get Nn ps xsss _ j hj]
          have q4 := Old.trans q3 qW
          refine mul_clo _ _ _ _ _ _ _ kb W (bk.old qW) ?_
          exact mul_part Nn ps Rf (xsss.getD j []) (nearL T ss) (uf j) (cf j) gn _ (.slice (au j) (xsss.getD j []).length (cu j)) us W (HTW.out.old (Old.trans HG3.out q4)) hS4 HPS.out HRT.out hrw (by rw [nearL_len]; exact HSL.out) (hrd.old qW) (fun k hk => ⟨(hus k hk).1.old qW, (hus k hk).2⟩) (hrr.old q4) (hat.old (Old.trans HG3.out q4))
        have HZL : Hid (∀ j, j < (mulZ Nn ps xsss (smS ps (nearL T ss))).length → ((mulZ Nn ps xsss (smS ps (nearL T ss))).getD j []).length = ps.length) := fun j hj => by
          rw [mulZ_len] at hj
          rw [mulZ_get Nn ps xsss _ j hj, mulL_len]
        have HNL : Hid ((mulZ Nn ps xsss (smS ps (nearL T ss))).length = xsss.length) := mulZ_len _ _ _ _
        have HGE : Hid (GoodT (TS 118 5 ps.length (elR Nn false ps Rf (smS ps (nearL T ss))))) := good_TS _ _ _ (good_elR _ _ _ _ _)
        clear hz4 hbb hpb hsp HPA HR HBB HY HNN HRB hsl hsv hpl HRT
        rcases h with ⟨hC, hm, g0, g1, rfl, p0, p1⟩ | ⟨hC, hm, g0, g1, g2, rfl, p0, p1, p2⟩
        · have HCI : Hid (ciB Nn ps xsss = true) := hC
          have HBJ : Hid (∀ j, j < 2 → rwB Nn ps (xsss.getD j []) = true) := fun j hj => (rd_true hC).2 j (by omega)
          have HPH : Hid (∀ j, j < 2 → PhG (w1.heap.size + 1) Nn ps Rf uf j w2 ((fun j => if j = 0 then g0 else g1) j)) := fun j hj => by
            rcases (show j = 0 ∨ j = 1 by omega) with rfl | rfl
            · simpa using p0
            · simpa using p1
          have HM : Hid (xsss.length = 2) := hm
          clear hC hm p0 p1 y0 f0
          go_wp2_with fail
          refine (c3 _ (HU2.out.old HG3.out)).mono ?_
          rintro e w3 ⟨rfl, g3⟩
          have BX4 : Hid (Bk w3 w1.heap.size #[.int .i64 (Nn : Int), .int .i64 T, .int .i64 E, .slice a0 ps.length c0, .slice (some ⟨g, 0, none⟩) ps.length ps.length, .bool false, .slice a l c] 73) := BX3.out.old g3
          have HG3' : Hid (Old w2 w3) := g3
          have HRG4 : Hid (Rgs w3 g Nn ps Rf ps.length) := HRG3.out.old g3
          have HGw3 : Hid (Old w w3) := Old.trans HG3.out g3
          have hs2 := R3.out.lt
          have hs3 : w2.heap.size ≤ w3.heap.size := g3.size
          clear g3 c3 x0 x1 x2 x3 x4 x5 x6 BX3 HRG3
          go_wp2_with fail
          refine reg_Ms w3 w1.heap.size Nn T E a0 ps.length c0 (some ⟨g, 0, none⟩) ps.length ps.length false a l c a2 ss.length c2' (nearL T ss) (TS 118 5 ps.length (elR Nn false ps Rf (smS ps (nearL T ss)))) HGE.out ps.length BX4.out (fun W q => HKN.out W (Old.trans HGw3.out q)) (fun W q u hu => HKS.out W (HRG4.out.old q) u hu) _ _ ?_ ?_ ?_ ?_
          iterate 3 (· exact rfl)
          intro us2 W5 kb gz h6 g5 hkb hK5 o5
          obtain ⟨us, hrd, hus, bk4, q4⟩ := rd_put (by have := HPS.out; omega) o5 hK5 g5 hkb
          have HQ4 : Hid (Old w2 (W5.setCell ⟨kb, 0, none⟩ (.slice (some ⟨gz, 0, none⟩) ps.length ps.length))) := Old.trans HG3'.out q4
          have R4 : Hid (Bk (W5.setCell ⟨kb, 0, none⟩ (.slice (some ⟨gz, 0, none⟩) ps.length ps.length)) (w.heap.size + 1 + 1) #[.slice none 0 0] 42) := R3.out.old HQ4.out
          have cc := changed_mul2 Nn false ps Rf (mulZ Nn ps xsss (smS ps (nearL T ss))) ps.length (fun j => if j = 0 then g0 else g1) kb (W5.setCell ⟨kb, 0, none⟩ (.slice (some ⟨gz, 0, none⟩) ps.length ps.length)) (by have := HPS.out; omega) (HNL.out.trans HM.out) HZL.out (fun j hj W q => HCJ.out (W5.setCell ⟨kb, 0, none⟩ (.slice (some ⟨gz, 0, none⟩) ps.length ps.length)) gz kb us HQ4.out hrd hus bk4 j (by rw [HM.out]; exact hj) (HBJ.out j hj) _ (HPH.out j hj) W q)
          simp only [putAll, Act.put, slotMs, List.range, List.range.loop, List.map_cons, List.map_nil, List.getD_cons_zero, List.getD_cons_succ, List.setIfInBounds_toArray, List.set_cons_succ, List.set_cons_zero, h6]
          have hs5 : w2.heap.size ≤ (W5.setCell ⟨kb, 0, none⟩ (.slice (some ⟨gz, 0, none⟩) ps.length ps.length)).heap.size := HQ4.out.size
          generalize W5.setCell ⟨kb, 0, none⟩ (.slice (some ⟨gz, 0, none⟩) ps.length ps.length) = w4 at *
          have HCC : Hid (Calls Tryz.prog 73 #[.iface 125 (.agg #[.slice g0 ps.length ps.length, .slice g1 ps.length ps.length]), .func (.func 85) #[] #[.pointer (some ⟨kb, 0, none⟩)]] w4 fun e w' => ∃ r0, e = .returned (.agg r0) ∧ Old w4 w' ∧ XC (mulZ Nn ps xsss (smS ps (nearL T ss))) w' w4.heap.size w'.heap.size r0) := cc
          clear cc hrd hus bk4 q4 o5 hK5 g5 hkb h6
          go_wp2_with fail
          refine HCC.out.mono ?_
          rintro e w5 ⟨r0, rfl, g5, x5⟩
          obtain ⟨a5, c5, rfl⟩ := shape_XC _ _ _ _ x5
          have HG6 : Hid (Old w w5) := Old.trans HG3.out (Old.trans HQ4.out g5)
          have R5 : Hid (Bk w5 (w.heap.size + 1 + 1) #[.slice none 0 0] 42) := R4.out.old g5
          have HX5 : Hid (XC (mulZ Nn ps xsss (smS ps (nearL T ss))) w5 w4.heap.size w5.heap.size #[.slice a5 (mulZ Nn ps xsss (smS ps (nearL T ss))).length c5]) := x5
          have y0 := R5.out.c (i := 0) rfl
          have f0 : w5.frozen? ⟨w.heap.size + 1 + 1, 0, none⟩ = false := frozen_of_row _ _ _ _ _ R5.out
          clear g5 x5 HCC
          go_wp2_with fail
          have q0 := (ci_put R5.out (.slice a5 (mulZ Nn ps xsss (smS ps (nearL T ss))).length c5)).c (i := 0) rfl
          refine bodyPost_ret (v := .tuple #[.agg #[.slice a5 (mulZ Nn ps xsss (smS ps (nearL T ss))).length c5], .bool true]) (by simp [results, Tryz.results35, go_sem, q0]) rfl (HEND.out HCI.out _ _ (HG6.out.own (p := ⟨w.heap.size + 1 + 1, 0, none⟩) (by simp; omega) _) ?_)
          obtain ⟨a6, c6, e6, o6⟩ := HX5.out
          simp at e6
          obtain ⟨rfl, rfl⟩ := e6
          refine ⟨a5, c5, rfl, ?_⟩
          have h2 := o6.putT (k := w.heap.size + 1 + 1) (j := 0) (x := .slice a5 (mulZ Nn ps xsss (smS ps (nearL T ss))).length c5) (.inl (by omega))
          exact h2.low (lo' := w.heap.size) (by omega) (by simp) (Nat.le_refl _)
        · have HCI : Hid (ciB Nn ps xsss = true) := hC
          have HBJ : Hid (∀ j, j < 3 → rwB Nn ps (xsss.getD j []) = true) := fun j hj => (rd_true hC).2 j (by omega)
          have HPH : Hid (∀ j, j < 3 → PhG (w1.heap.size + 1) Nn ps Rf uf j w2 ((fun j => if j = 0 then g0 else if j = 1 then g1 else g2) j)) := fun j hj => by
            rcases (show j = 0 ∨ j = 1 ∨ j = 2 by omega) with rfl | rfl | rfl
            · simpa using p0
            · simpa using p1
            · simpa using p2
          have HM : Hid (xsss.length = 3) := hm
          clear hC hm p0 p1 p2 y0 f0
          go_wp2_with fail
          refine (c3 _ (HU2.out.old HG3.out)).mono ?_
          rintro e w3 ⟨rfl, g3⟩
          have BX4 : Hid (Bk w3 w1.heap.size #[.int .i64 (Nn : Int), .int .i64 T, .int .i64 E, .slice a0 ps.length c0, .slice (some ⟨g, 0, none⟩) ps.length ps.length, .bool false, .slice a l c] 73) := BX3.out.old g3
          have HG3' : Hid (Old w2 w3) := g3
          have HRG4 : Hid (Rgs w3 g Nn ps Rf ps.length) := HRG3.out.old g3
          have HGw3 : Hid (Old w w3) := Old.trans HG3.out g3
          have hs2 := R3.out.lt
          have hs3 : w2.heap.size ≤ w3.heap.size := g3.size
          clear g3 c3 x0 x1 x2 x3 x4 x5 x6 BX3 HRG3
          go_wp2_with fail
          refine reg_Ms w3 w1.heap.size Nn T E a0 ps.length c0 (some ⟨g, 0, none⟩) ps.length ps.length false a l c a2 ss.length c2' (nearL T ss) (TS 118 5 ps.length (elR Nn false ps Rf (smS ps (nearL T ss)))) HGE.out ps.length BX4.out (fun W q => HKN.out W (Old.trans HGw3.out q)) (fun W q u hu => HKS.out W (HRG4.out.old q) u hu) _ _ ?_ ?_ ?_ ?_
          iterate 3 (· exact rfl)
          intro us2 W5 kb gz h6 g5 hkb hK5 o5
          obtain ⟨us, hrd, hus, bk4, q4⟩ := rd_put (by have := HPS.out; omega) o5 hK5 g5 hkb
          have HQ4 : Hid (Old w2 (W5.setCell ⟨kb, 0, none⟩ (.slice (some ⟨gz, 0, none⟩) ps.length ps.length))) := Old.trans HG3'.out q4
          have R4 : Hid (Bk (W5.setCell ⟨kb, 0, none⟩ (.slice (some ⟨gz, 0, none⟩) ps.length ps.length)) (w.heap.size + 1 + 1) #[.slice none 0 0] 42) := R3.out.old HQ4.out
          have cc := changed_mul3 Nn false ps Rf (mulZ Nn ps xsss (smS ps (nearL T ss))) ps.length (fun j => if j = 0 then g0 else if j = 1 then g1 else g2) kb (W5.setCell ⟨kb, 0, none⟩ (.slice (some ⟨gz, 0, none⟩) ps.length ps.length)) (by have := HPS.out; omega) (HNL.out.trans HM.out) HZL.out (fun j hj W q => HCJ.out (W5.setCell ⟨kb, 0, none⟩ (.slice (some ⟨gz, 0, none⟩) ps.length ps.length)) gz kb us HQ4.out hrd hus bk4 j (by rw [HM.out]; exact hj) (HBJ.out j hj) _ (HPH.out j hj) W q)
          simp only [putAll, Act.put, slotMs, List.range, List.range.loop, List.map_cons, List.map_nil, List.getD_cons_zero, List.getD_cons_succ, List.setIfInBounds_toArray, List.set_cons_succ, List.set_cons_zero, h6]
          have hs5 : w2.heap.size ≤ (W5.setCell ⟨kb, 0, none⟩ (.slice (some ⟨gz, 0, none⟩) ps.length ps.length)).heap.size := HQ4.out.size
          generalize W5.setCell ⟨kb, 0, none⟩ (.slice (some ⟨gz, 0, none⟩) ps.length ps.length) = w4 at *
          have HCC : Hid (Calls Tryz.prog 73 #[.iface 167 (.agg #[.slice g0 ps.length ps.length, .slice g1 ps.length ps.length, .slice g2 ps.length ps.length]), .func (.func 85) #[] #[.pointer (some ⟨kb, 0, none⟩)]] w4 fun e w' => ∃ r0, e = .returned (.agg r0) ∧ Old w4 w' ∧ XC (mulZ Nn ps xsss (smS ps (nearL T ss))) w' w4.heap.size w'.heap.size r0) := cc
          clear cc hrd hus bk4 q4 o5 hK5 g5 hkb h6
          go_wp2_with fail
          refine HCC.out.mono ?_
          rintro e w5 ⟨r0, rfl, g5, x5⟩
          obtain ⟨a5, c5, rfl⟩ := shape_XC _ _ _ _ x5
          have HG6 : Hid (Old w w5) := Old.trans HG3.out (Old.trans HQ4.out g5)
          have R5 : Hid (Bk w5 (w.heap.size + 1 + 1) #[.slice none 0 0] 42) := R4.out.old g5
          have HX5 : Hid (XC (mulZ Nn ps xsss (smS ps (nearL T ss))) w5 w4.heap.size w5.heap.size #[.slice a5 (mulZ Nn ps xsss (smS ps (nearL T ss))).length c5]) := x5
          have y0 := R5.out.c (i := 0) rfl
          have f0 : w5.frozen? ⟨w.heap.size + 1 + 1, 0, none⟩ = false := frozen_of_row _ _ _ _ _ R5.out
          clear g5 x5 HCC
          go_wp2_with fail
          have q0 := (ci_put R5.out (.slice a5 (mulZ Nn ps xsss (smS ps (nearL T ss))).length c5)).c (i := 0) rfl
          refine bodyPost_ret (v := .tuple #[.agg #[.slice a5 (mulZ Nn ps xsss (smS ps (nearL T ss))).length c5], .bool true]) (by simp [results, Tryz.results35, go_sem, q0]) rfl (HEND.out HCI.out _ _ (HG6.out.own (p := ⟨w.heap.size + 1 + 1, 0, none⟩) (by simp; omega) _) ?_)
          obtain ⟨a6, c6, e6, o6⟩ := HX5.out
          simp at e6
          obtain ⟨rfl, rfl⟩ := e6
          refine ⟨a5, c5, rfl, ?_⟩
          have h2 := o6.putT (k := w.heap.size + 1 + 1) (j := 0) (x := .slice a5 (mulZ Nn ps xsss (smS ps (nearL T ss))).length c5) (.inl (by omega))
          exact h2.low (lo' := w.heap.size) (by omega) (by simp) (Nat.le_refl _)
end Go.Proofs.YtakleianimcmdaaGreatDoor
/- Proved: the statement on MulPlain at every argument, in a world in which the two tables are laid. -/
namespace Go.Proofs.YtakleianimcmdaaGreatDoor
open Go.ChangeShapes Go.WideShapes Go.ChangeAt Go.RowKit
set_option linter.unusedVariables false
set_option linter.unusedSimpArgs false
open M1
theorem mulZ_row {N : Nat} {ps : List Int} {xsss : List (List (List Int))} {yss : List (List Int)} (hN : N ≤ 16) (hps : ps.length ≤ 6) (hC : ciB N ps xsss = true) : (mulZ N ps xsss yss).length ≤ 3 ∧ ∀ r ∈ mulZ N ps xsss yss, r.length ≤ 6 ∧ ∀ q ∈ r, q.length ≤ 16 := by
  obtain ⟨hm, hB⟩ := rd_true hC
  refine ⟨by rw [mulZ_len]; omega, fun r hr => ?_⟩
  unfold mulZ at hr
  rw [List.mem_map] at hr
  obtain ⟨xss, hx, rfl⟩ := hr
  refine ⟨by rw [mulL_len]; exact hps, fun q hq => ?_⟩
  unfold mulL at hq
  rw [List.mem_map] at hq
  obtain ⟨k, hk, rfl⟩ := hq
  rw [toZ_len, muO_len]
  exact hN
set_option maxRecDepth 100000 in
theorem spec_MulPlain_any (N T E : Int) (ps : List Int) (xsss : List (List (List Int))) (ss : List Int) (v u u2 : Value) (w : World) (hv : Row w v ps) (hf : Fit v) (hu : RowT w u xsss) (hu2 : Row w u2 ss) (hl2 : ss.length ≤ 9223372036854775807) (hlp : ps.length ≤ 9223372036854775807) (hl : xsss.length ≤ 1048576) (hr : ∀ r ∈ xsss, r.length ≤ 1048576 ∧ ∀ q ∈ r, q.length ≤ 1048576) (hx : ∀ x ∈ ps, -9223372036854775808 ≤ x ∧ x ≤ 9223372036854775807) (Z : List (List (List Int))) (ok : Bool) (hy : (prB N T E ps && ciB N ps xsss && polyB T N ss) = true → Z = mulZ N.toNat ps xsss (smS ps (nearL T ss)) ∧ ok = true) (hn : (prB N T E ps && ciB N ps xsss && polyB T N ss) = false → Z = [] ∧ ok = false) :
    Calls Tryz.prog 34 #[.agg #[.int .i64 N, .int .i64 T, .int .i64 E, v], .agg #[u], u2] w (CiA Z ok w) := by
  have KG := fun W (g : Old w W) => spec_goodCipher N T E ps xsss v u W (hv.old g) hf (hu.old g) hlp hl hr hx
  obtain ⟨a0, c0, ev⟩ := hv.slice
  subst ev
  have KP := fun (h : (prB N T E ps && ciB N ps xsss) = true) W (g : Old w W) => l9Plain_any N T E a0 ps.length c0 ss u2 W (hu2.old g) hl2 (prB_T ((Bool.and_eq_true _ _ ▸ h).1))
  cases h : (prB N T E ps && ciB N ps xsss && polyB T N ss)
  · obtain ⟨rfl, rfl⟩ := hn h
    obtain ⟨a1, c1, eu⟩ := hu.slice
    obtain ⟨a2, c2, eu2⟩ := hu2.slice
    subst eu eu2
    exact spec_MulPlain_no N T E _ _ _ _ _ _ _ _ _ _ _ w h KG KP
  · obtain ⟨rfl, rfl⟩ := hy h
    rw [Bool.and_eq_true] at h
    obtain ⟨h1, hpl⟩ := h
    rw [h1] at KG
    replace KP := KP h1
    rw [hpl] at KP
    rw [Bool.and_eq_true] at h1
    obtain ⟨hm, hB⟩ := rd_true h1.2
    obtain ⟨hz4, hbb, hok⟩ := sp_ring (prB_sp h1.1)
    have hTT := prB_T h1.1
    have hps := (bas_at hbb).1
    have hpb : ∀ k, k < ps.length → 2 ≤ ps.getD k 0 ∧ ps.getD k 0 ≤ 268435456 := fun k hk => pm_bd ((bas_at hbb).2 k hk)
    obtain ⟨Nn, rfl⟩ : ∃ Nn : Nat, N = (Nn : Int) := ⟨N.toNat, by omega⟩
    rw [show ((Nn : Int).toNat) = Nn by omega]
    obtain ⟨hsl, hsv⟩ := poly_parts hpl
    have hNn : 2 ≤ Nn ∧ Nn ≤ 16 := by omega
    have hnl : (nearL T ss).length = Nn := by rw [nearL_len]; omega
    rcases hu with ⟨a, cap, e, e2⟩ | ⟨b, o, cap, us, e, hb, h0, hc⟩
    · rw [e2] at hm
      simp at hm
    · subst e
      rw [← mulZ_len Nn ps xsss (smS ps (nearL T ss))] at KG ⊢
      refine spec_MulPlain_yes Nn T E _ _ _ b o cap (mulZ Nn ps xsss (smS ps (nearL T ss))) us ss u2 (smS ps (nearL T ss)) w (by rw [mulZ_len]; exact hm) hb (fun j hj => ?_) (fun j hj => ?_) hu2 (by omega) hsv hTT KG KP (fun W g u hu => ?_) (fun j hj W g u hu => ?_)
      · rw [mulZ_len] at hj
        obtain ⟨x, y, e⟩ := (hc j hj).2.slice
        exact ⟨x, _, y, e⟩
      · rw [mulZ_len] at hj
        exact (hc j hj).1
      · refine (spec_l8Small Nn T E ps (nearL T ss) _ u W (hv.old g) hu hps (by omega) hpb (fun i hi => ?_)).mono fun e w' h => ?_
        · rw [nearL_len] at hi
          rw [nearL_get _ _ _ hi]
          have := nearF_bd hTT (hsv i hi)
          omega
        · obtain ⟨v', e1, e2, e3⟩ := h
          exact ⟨v', e1, e2, e3.rowS⟩
      · rw [mulZ_len] at hj
        rw [mulZ_get Nn ps xsss _ j hj]
        obtain ⟨q1, q2⟩ := rw_parts (hB j hj)
        refine spec_l5Mul Nn ps (xsss.getD j []) (smS ps (nearL T ss)) _ _ (us j) u W (hv.old g) ((hc j hj).2.old g) hu hps q1 (smS_len _ _) (mulL_len _ _ _ _) (fun k hk W' t1 t2 r1 r2 => ?_)
        obtain ⟨P, eP⟩ : ∃ P : Nat, ps.getD k 0 = (P : Int) := ⟨(ps.getD k 0).toNat, by have := hpb k hk; omega⟩
        have hP2 := hpb k hk
        have hpk := q2 k hk
        rw [eP] at hpk hP2
        obtain ⟨ys, e4, la, ha⟩ := polyB_yes hpk
        obtain ⟨zs, e5, lb, hb5⟩ := smR_toZ P (nearL T ss) (by omega)
        rw [e4] at r1
        rw [smS_get _ _ _ hk, eP, e5] at r2
        rw [mulL_get _ _ _ _ _ hk, smS_get _ _ _ hk, eP, e4, e5, toZ_bk, toZ_bk, show ((P : Int).toNat) = P by omega]
        exact spec_l3Mul P Nn 0 ys zs t1 t2 W' r1 r2 (by omega) hNn la (lb.trans hnl) ha hb5
set_option maxRecDepth 100000 in
theorem MulPlain_any (N T E : Int) (xs : List Int) (xsss : List (List (List Int))) (ss : List Int) (v u t : Value) (w : World) (hv : Row w v xs) (hl : xs.length ≤ 9223372036854775807) (hx : ∀ x ∈ xs, -9223372036854775808 ≤ x ∧ x ≤ 9223372036854775807) (hu : RowT w u xsss) (hs : xsss.length ≤ 9223372036854775807) (hsr : ∀ r ∈ xsss, r.length ≤ 9223372036854775807 ∧ ∀ q ∈ r, q.length ≤ 9223372036854775807) (ht : Row w t ss) (hts : ss.length ≤ 9223372036854775807) (hP : PrsW w) (hT : TabW w) :
    Calls Tryz.prog 8 #[.agg #[.int .i64 N, .int .i64 T, .int .i64 E, v], .agg #[u], t] w fun e w' => e = .returned (.bool true) ∧ Old w w' := by
  obtain ⟨a0, c0, rfl⟩ := hv.slice
  obtain ⟨a1, c1, eu⟩ := hu.slice
  obtain ⟨a2, c2, et⟩ := ht.slice
  subst eu et
  have bnd : ∀ {A : Prop}, ¬ (1048576 : Int) < (ss.length : Int) → ¬ leftN 1048576 xs.length < 0 → ¬ leftTT (leftN 1048576 xs.length) xsss < 0 → (xs.length ≤ 1048576 → xsss.length ≤ 1048576 → (∀ r ∈ xsss, r.length ≤ 1048576 ∧ ∀ q ∈ r, q.length ≤ 1048576) → offT xsss xsss.length ≤ 1048576 → ss.length ≤ 1048576 → A) → A := fun h2 h0 h1 k => by
    obtain ⟨q1, q2, q3⟩ := leftN_ok h0 (by omega)
    obtain ⟨p1, p2, p3, p4, p5⟩ := leftTT_ok q3 h1
    exact k (by omega) (by omega) (fun r hr => by
      have := p5 r hr
      exact ⟨by omega, fun q hq => by have := this.2 q hq; omega⟩) (by omega) (by omega)
  obtain ⟨Z, ok, hy, hn, z1, z2⟩ : ∃ (Z : List (List (List Int))) (ok : Bool), ((prB N T E xs && ciB N xs xsss && polyB T N ss) = true → Z = mulZ N.toNat xs xsss (smS xs (nearL T ss)) ∧ ok = true) ∧ ((prB N T E xs && ciB N xs xsss && polyB T N ss) = false → Z = [] ∧ ok = false) ∧ Z.length ≤ 3 ∧ ∀ r ∈ Z, r.length ≤ 6 ∧ ∀ q ∈ r, q.length ≤ 16 := by
    cases h : (prB N T E xs && ciB N xs xsss && polyB T N ss)
    · exact ⟨[], false, (fun h => by cases h), (fun _ => ⟨rfl, rfl⟩), by simp, fun r hr => by cases hr⟩
    · rw [Bool.and_eq_true, Bool.and_eq_true] at h
      obtain ⟨⟨h1, h2⟩, h3⟩ := h
      obtain ⟨hz4, hbb, _⟩ := sp_ring (prB_sp h1)
      have := mulZ_row (N := N.toNat) (yss := smS xs (nearL T ss)) (by omega) (bas_at hbb).1.2 (by rw [show ((N.toNat : Nat) : Int) = N by omega]; exact h2)
      exact ⟨mulZ N.toNat xs xsss (smS xs (nearL T ss)), true, (fun _ => ⟨rfl, rfl⟩), (fun h => by cases h), this.1, this.2⟩
  have ho : offT Z Z.length ≤ 288 := by
    have := offT_bd Z 6 16 z2
    omega
  have z3 : ∀ r ∈ Z, r.length ≤ 1048576 ∧ ∀ q ∈ r, q.length ≤ 1048576 := fun r hr => by
    have := z2 r hr
    exact ⟨by omega, fun q hq => by have := this.2 q hq; omega⟩
  refine law9_MulPlain w N T E xs.length a0 c0 xsss.length a1 c1 ss.length a2 c2 Z.length ok (leftN 1048576 xs.length) (leftTT (leftN 1048576 xs.length) xsss)
    (fun _ W g => kp_sz N T E a0 xs.length c0 1048576 W hl (by omega) (by omega))
    (fun _ h0 W g => by
      obtain ⟨q1, q2, q3⟩ := leftN_ok h0 (by omega)
      exact kc_sz xsss _ _ W (hu.old g) hs hsr q3 (by omega))
    (XP N T E xs) (far_XP N T E xs) shape_XP (fun h2 h0 h1 W g => bnd h2 h0 h1 fun h3 _ _ _ _ => kp_to N T E xs _ W (hv.old g) h3) (fun h2 h0 h1 W lo hi g lo' hi' g' k k' => bnd h2 h0 h1 fun h3 _ _ _ _ => kp_eq N T E xs W lo hi g lo' hi' g' k k' (by omega))
    (1 + xs.length) (by omega) (fun h2 h0 h1 W lo hi g k => bnd h2 h0 h1 fun h3 _ _ _ _ => kp_mark N T E xs 1 W lo hi g k h3 (by omega) (by omega))
    (XC xsss) (far_XC xsss) shape_XC (fun h2 h0 h1 W g => bnd h2 h0 h1 fun _ h3 h4 _ _ => kc_to xsss _ W (hu.old g) h3 h4) (fun h2 h0 h1 W lo hi g lo' hi' g' k k' => bnd h2 h0 h1 fun _ h3 h4 _ _ => kc_eq xsss W lo hi g lo' hi' g' k k' h3 h4)
    (1 + xs.length + offT xsss xsss.length) (by omega) (fun h2 h0 h1 W lo hi g k => bnd h2 h0 h1 fun h2 h3 h4 h5 _ => (kc_mark xsss (1 + xs.length) W lo hi g k h3 h4 (by omega) (by omega)).mono (fun e w' h => ⟨h.1, h.2.1⟩))
    (XI ss) (far_XI ss) shape_XI (fun h2 h0 h1 W g => bnd h2 h0 h1 fun _ _ _ _ h5 => ki_to ss _ W (ht.old g) h5) (fun h2 h0 h1 W lo hi g lo' hi' g' k k' => bnd h2 h0 h1 fun _ _ _ _ h5 => ki_eq ss W lo hi g lo' hi' g' k k' (by omega))
    (1 + xs.length + offT xsss xsss.length + ss.length) (by omega) (fun h2 h0 h1 W lo hi g k => bnd h2 h0 h1 fun h2 h3 h4 h5 h6 => ki_mark ss (1 + xs.length + offT xsss xsss.length) W lo hi g k h6 (by omega) (by omega))
    (XC Z) (far_XC _) shape_XC (XC Z) (far_XC _) shape_XC (XCm 1 Z) (far_XCm _ _) shape_XCm
    (fun h2 h0 h1 W lo hi g lo1 hi1 g1 lo2 hi2 g2 k k1 k2 q => bnd h2 h0 h1 fun _ h3 h4 _ _ => ?_) (fun h2 h0 h1 W lo hi g lo1 hi1 g1 lo2 hi2 g2 k k1 k2 q => bnd h2 h0 h1 fun _ h3 h4 _ _ => ?_)
    (fun h2 h0 h1 W lo hi p lo' hi' p' k k' => kc_eq Z W lo hi p lo' hi' p' k k' (by omega) z3)
    (1 + offT Z Z.length) (by omega) (fun h2 h0 h1 W lo hi p k => kc_mark Z 1 W lo hi p k (by omega) z3 (by omega) (by omega))
    (fun h2 h0 h1 W lo hi p k => kc_held Z 1 W lo hi p k (by omega) z3 (by omega) (by omega))
  · obtain ⟨a, c, rfl, o, f⟩ := k
    obtain ⟨a', c', rfl, o'⟩ := k1
    obtain ⟨a'', c'', rfl, o'', f''⟩ := k2
    exact spec_MulPlain_any N T E xs xsss ss _ _ _ W o.row f o'.rowT o''.row hts hl h3 h4 hx Z ok hy hn
  · obtain ⟨a, c, rfl, o, f⟩ := k
    obtain ⟨a', c', rfl, o'⟩ := k1
    obtain ⟨a'', c'', rfl, o'', f''⟩ := k2
    exact impl_MulPlain N T E xs xsss ss _ _ _ W lo1 hi1 (hP.old q) (hT.old q) o.row f o' o''.row hts hl h3 h4 Z ok hy hn
end Go.Proofs.YtakleianimcmdaaGreatDoor
