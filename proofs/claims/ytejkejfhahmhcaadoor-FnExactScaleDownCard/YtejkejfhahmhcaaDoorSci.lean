/- Proved: the program's ScaleDown where it answers. -/
import Derived.Test.YtejkejfhahmhcaaDoorCvd
import Derived.Test.YtejkejfhahmhcaaDoorCve
import Derived.Test.YtejkejfhahmhcaaDoorScq
import Derived.Test.YtejkejfhahmhcaaDoorIfl
namespace Go.Proofs.YtejkejfhahmhcaaDoor
open Go.ChangeShapes Go.WideShapes Go.ChangeAt Go.RowKit
open M2
set_option linter.unusedVariables false
set_option linter.unusedSimpArgs false
/-- the residues times t and gamma -/
def zL (rs ps : List Nat) (T G : Nat) : List Nat := (List.range ps.length).map (fun i => pmN (ps.getD i 0) [rs.getD i 0, T, G])
theorem zL_len (rs ps : List Nat) (T G : Nat) : (zL rs ps T G).length = ps.length := by simp [zL]
theorem zL_get (rs ps : List Nat) (T G : Nat) (k : Nat) (h : k < ps.length) : (zL rs ps T G).getD k 0 = pmN (ps.getD k 0) [rs.getD k 0, T, G] := by simp [zL, List.getD, h]
theorem zL_res {rs ps : List Nat} (hR : Res rs ps) (T G : Nat) : Res (zL rs ps T G) ps := ⟨hR.bas, zL_len _ _ _ _, fun i hi => by
  rw [zL_get _ _ _ _ _ hi]
  exact pmN_lt _ _ (hR.bas.lo _ (by simp [List.getD, hi]))⟩
/-- what ScaleDown leaves by t -/
def sdU (T : Nat) (ps ys : List Nat) : Nat := overL T ps (plusS T ps ys 0)
/-- what ScaleDown leaves by gamma, centred -/
def sdV (G : Nat) (ps ys : List Nat) : Int := cenB (overL G ps (plusS G ps ys 0)) G
def sdZ (T G : Nat) (ps ys : List Nat) : Int := (((sdU T ps ys : Nat) : Int) - sdV G ps ys) * ((M1.invM (G % T) T : Nat) : Int) % (T : Int)
theorem sdV_in (G : Nat) (ps ys : List Nat) (hG : 2 ≤ G ∧ G ≤ 268435456) : -268435456 ≤ sdV G ps ys ∧ sdV G ps ys ≤ 268435456 := by
  have := overL_lt G ps (plusS G ps ys 0) hG.1
  unfold sdV cenB
  split <;> omega
theorem three_row (w : World) (x y z : Int) (t : TypeId) : Row (w.alloc (.cells #[.int .i64 x, .int .i64 y, .int .i64 z] t)) (.slice (some ⟨w.heap.size, 0, none⟩) 3 3) [x, y, z] := by
  refine Or.inr ⟨w.heap.size, 0, 3, rfl, by simp, by simp, fun j hj => ?_⟩
  simp at hj
  rw [Nat.zero_add, cell_at _ _ _ _ _ rfl]
  rcases (show j = 0 ∨ j = 1 ∨ j = 2 by omega) with rfl | rfl | rfl <;> rfl
set_option maxRecDepth 100000 in
set_option maxHeartbeats 8000000 in
theorem impl_ScaleDown_yes (rs ps : List Nat) (T G : Nat) (v u : Value) (w : World) (hP : PrsW w) (hT : TabW w) (hv : Row w v (toZ rs)) (hu : Row w u (toZ ps)) (hf : Fit u) (hR : Res rs ps) (hTG : 2 ≤ T ∧ T ≤ 65536) (hG : T < G ∧ G ≤ 268435456) (h : sdB (toZ rs) (toZ ps) T G = true) :
    Calls Tryd.prog 33 #[v, u, .int .i64 (T : Int), .int .i64 (G : Int)] w (Nm6 w (sdZ T G ps (yL (zL rs ps T G) ps)) true) := by
  obtain ⟨i0, hi, hz0, hz1, hz2⟩ := info_parts Tryd.infoInt
  have hl6 := hR.bas.len6
  have hl1 := hR.bas.len1
  have hrl := hR.len
  unfold sdB at h
  simp only [Bool.and_eq_true] at h
  obtain ⟨⟨h1, h2⟩, h3⟩ := h
  have K1 : ∀ W, Old w W → Calls Tryd.prog 37 #[u] W fun en w' => en = .returned (.bool true) ∧ Old W w' := fun W q => by
    have := impl_goodBasis (toZ ps) u W (hP.old q) (hT.old q) (hu.old q) hf (by rw [toZ_len]; omega)
    rwa [h1] at this
  have K2 : ∀ W, Old w W → Calls Tryd.prog 38 #[v, u] W fun en w' => en = .returned (.bool true) ∧ Old W w' := fun W q => by
    have := areRes_any (toZ rs) (toZ ps) v u W (hv.old q) (hu.old q) (by rw [toZ_len]; omega) (by rw [toZ_len]; omega)
    rwa [h2] at this
  have K3 : ∀ W, Old w W → Calls Tryd.prog 80 #[.int .i64 (T : Int), .int .i64 (G : Int), u] W fun en w' => en = .returned (.bool true) ∧ Old W w' := fun W q => by
    have := isScale_any (T : Int) (G : Int) (toZ ps) u W (hP.old q) (hT.old q) (hu.old q) (by rw [toZ_len]; omega) (bas_lo h1)
    rwa [h3] at this
  have hR2 := zL_res hR T G
  have cc := fun d W h1 h2 => conv_any (zL rs ps T G) ps d u W h1 h2 hf hR2.bas hR2.len hR2.lt
  have HV : Hid (Row w v (toZ rs)) := hv
  have HU : Hid (Row w u (toZ ps)) := hu
  have HFU : Hid (Fit u) := hf
  obtain ⟨b1, o1, cap1, rfl, hb1, hc1⟩ := hv.atZ (by omega)
  obtain ⟨b2, o2, cap2, rfl, hb2, hc2⟩ := hu.atZ (by omega)
  rw [hrl] at HV hc1 K2 ⊢
  have HC1 : Hid (∀ j, j < ps.length → w.cell? ⟨b1, o1 + j, none⟩ = some (.int .i64 ((rs.getD j 0 : Nat) : Int))) := hc1
  have HC2 : Hid (∀ j, j < ps.length → w.cell? ⟨b2, o2 + j, none⟩ = some (.int .i64 ((ps.getD j 0 : Nat) : Int))) := hc2
  have HBD : Hid (∀ j, j < ps.length → rs.getD j 0 < ps.getD j 0 ∧ 2 ≤ ps.getD j 0 ∧ ps.getD j 0 ≤ 268435456) := fun j hj => by
    have hm : ps.getD j 0 ∈ ps := by simp [List.getD, hj]
    exact ⟨hR.lt j hj, hR.bas.lo _ hm, hR.bas.hi _ hm⟩
  have hlen : (toZ (zL rs ps T G)).length = ps.length := by rw [toZ_len, zL_len]
  have HEL : Hid (∀ k, k < ps.length → (toZ (zL rs ps T G)).getD k 0 = ((pmN (ps.getD k 0) [rs.getD k 0, T, G] : Nat) : Int)) := fun k hk => by rw [toZ_get, zL_get _ _ _ _ _ hk]
  have hpT := plusS_lt T ps (yL (zL rs ps T G) ps) 0 hTG.1
  have hpG := plusS_lt G ps (yL (zL rs ps T G) ps) 0 (by omega)
  have huT := overL_lt T ps (plusS T ps (yL (zL rs ps T G) ps) 0) hTG.1
  have huG := overL_lt G ps (plusS G ps (yL (zL rs ps T G) ps) 0) (by omega)
  have hvi := sdV_in G ps (yL (zL rs ps T G) ps) (by omega)
  have CT : Hid (∀ M : Nat, 2 ≤ M → M ≤ 268435456 → ∀ W g gs, Cv W ps (yL (zL rs ps T G) ps) (.slice (some ⟨b2, o2, none⟩) ps.length cap2) (.slice (some ⟨g, 0, none⟩) ps.length ps.length) → StL W gs → Calls Tryd.prog 71 #[.agg #[.slice (some ⟨b2, o2, none⟩) ps.length cap2, .slice (some ⟨g, 0, none⟩) ps.length ps.length, .int .i64 0, .int .i64 0, .slice (some ⟨gs, 0, none⟩) 2 2], .int .i64 0, .int .i64 (M : Int)] W fun e w' => e = .returned (.int .i64 ((overL M ps (plusS M ps (yL (zL rs ps T G) ps) 0) : Nat) : Int)) ∧ Old W w') := fun M hm1 hm2 W g gs hC hGs => by
    have l1 := plusS_lt M ps (yL (zL rs ps T G) ps) 0 hm1
    exact takeL_any M gs 0 (plusS M ps (yL (zL rs ps T G) ps) 0) _ _ _ _ _ _ _ _ _ rfl rfl 0 0 W hGs
      (fun W3 g3 => plusSum_any _ _ ps (yL (zL rs ps T G) ps) _ _ 0 0 W3 ⟨hm1, hm2⟩ (by omega) (hC.old g3))
      (fun W3 g3 => overLess_any _ _ ps (yL (zL rs ps T G) ps) _ _ 0 0 W3 ⟨hm1, hm2⟩ (by omega) (hC.old g3))
  have CU : Hid (∀ W g gs, Cv W ps (yL (zL rs ps T G) ps) (.slice (some ⟨b2, o2, none⟩) ps.length cap2) (.slice (some ⟨g, 0, none⟩) ps.length ps.length) → StL W gs → Calls Tryd.prog 71 #[.agg #[.slice (some ⟨b2, o2, none⟩) ps.length cap2, .slice (some ⟨g, 0, none⟩) ps.length ps.length, .int .i64 0, .int .i64 0, .slice (some ⟨gs, 0, none⟩) 2 2], .int .i64 0, .int .i64 (T : Int)] W fun e w' => e = .returned (.int .i64 ((sdU T ps (yL (zL rs ps T G) ps) : Nat) : Int)) ∧ Old W w') := CT.out T hTG.1 (by omega)
  have CG := CT.out G (by omega) hG.2
  have CB : ∀ W, Calls Tryd.prog 70 #[.int .i64 ((overL G ps (plusS G ps (yL (zL rs ps T G) ps) 0) : Nat) : Int), .int .i64 (G : Int)] W fun e w' => e = .returned (.int .i64 (sdV G ps (yL (zL rs ps T G) ps))) ∧ w' = W := fun W => centredBy_any _ G W (by omega) (by omega)
  have ci := fun W => impl_InvMod_yes (G : Int) (T : Int) W (by omega) (decide_eq_true ⟨by omega, by omega⟩)
  have eI : ((G : Int) % (T : Int)).toNat = G % T := by rw [← Int.natCast_emod, Int.toNat_natCast]
  rw [eI, Int.toNat_natCast] at ci
  have hil := invM_lt (G % T) T (by omega)
  unfold sdZ
  have hsu : sdU T ps (yL (zL rs ps T G) ps) < T := huT
  generalize sdU T ps (yL (zL rs ps T G) ps) = uu at *
  generalize sdV G ps (yL (zL rs ps T G) ps) = vv at *
  obtain ⟨xg, hxg⟩ : ∃ xg, overL G ps (plusS G ps (yL (zL rs ps T G) ps) 0) = xg := ⟨_, rfl⟩
  rw [hxg] at CG CB huG
  have CGG : Hid (∀ W g gs, Cv W ps (yL (zL rs ps T G) ps) (.slice (some ⟨b2, o2, none⟩) ps.length cap2) (.slice (some ⟨g, 0, none⟩) ps.length ps.length) → StL W gs → Calls Tryd.prog 71 #[.agg #[.slice (some ⟨b2, o2, none⟩) ps.length cap2, .slice (some ⟨g, 0, none⟩) ps.length ps.length, .int .i64 0, .int .i64 0, .slice (some ⟨gs, 0, none⟩) 2 2], .int .i64 0, .int .i64 (G : Int)] W fun e w' => e = .returned (.int .i64 (xg : Int)) ∧ Old W w') := CG
  clear CG CT hxg eI
  generalize M1.invM (G % T) T = iv at *
  obtain ⟨df, hdf⟩ : ∃ df : Int, (uu : Int) - vv = df := ⟨_, rfl⟩
  have t4 : IntKind.i64.wrap ((uu : Int) - vv) = df := by rw [hdf, IntKind.wrap_i64]; omega
  have hdb : -536870912 ≤ df ∧ df ≤ 536870912 := by omega
  rw [hdf]
  obtain ⟨pr, hpr⟩ : ∃ pr : Int, df * (iv : Int) = pr := ⟨_, rfl⟩
  have hpb : -72057594037927936 ≤ pr ∧ pr ≤ 72057594037927936 := by
    rw [← hpr]
    have q1 : df * (iv : Int) ≤ 536870912 * (iv : Int) := Int.mul_le_mul_of_nonneg_right hdb.2 (by omega)
    have q2 : -536870912 * (iv : Int) ≤ df * (iv : Int) := Int.mul_le_mul_of_nonneg_right hdb.1 (by omega)
    omega
  have t5 : IntKind.i64.wrap (df * (iv : Int)) = pr := by rw [hpr, IntKind.wrap_i64]; omega
  rw [hpr]
  clear hdf hpr
  have cr := fun W => impl_residueOf pr (T : Int) W (by omega) (by omega)
  have hzb : 0 ≤ pr % (T : Int) ∧ pr % (T : Int) < (T : Int) := ⟨Int.emod_nonneg _ (by omega), Int.emod_lt_of_pos _ (by omega)⟩
  generalize pr % (T : Int) = rz at *
  have HZY : Hid (Res (zL rs ps T G) ps) := hR2
  generalize yL (zL rs ps T G) ps = ys at *
  generalize toZ (zL rs ps T G) = ss at *
  have hmf : ∀ (fn : Fn) (first cap : Array Value) (w : World), (Instr.makeFunc fn first cap).run Tryd.prog w = .ok (.func fn first cap) w := fun _ _ _ _ => rfl
  have HG0 : Hid (Old w w) := Old.refl w
  clear hP hT hv hu hf h1 h2 h3 hR hR2 hc1 hc2 hrl hpT hpG huT HZY
  go_enter Tryd.func33, Tryd.ntmps33
  go_wp2_with fail
  refine (K1 _ HG0.out).mono ?_
  rintro e w1 ⟨rfl, g1⟩
  have HG1 : Hid (Old w w1) := Old.trans HG0.out g1
  clear g1
  go_wp2_with fail
  refine (K2 _ HG1.out).mono ?_
  rintro e w2 ⟨rfl, g2⟩
  have HG2 : Hid (Old w w2) := Old.trans HG1.out g2
  clear g2
  go_wp2_with fail
  refine (K3 _ HG2.out).mono ?_
  rintro e w3 ⟨rfl, g3⟩
  have HG3 : Hid (Old w w3) := Old.trans HG2.out g3
  clear g3
  clear K1 K2 K3
  go_wp2_with (at_make; refine wpList_make_full _ rfl _ _ 22 rfl w3.heap.size 3 i0 (.int .i64 0) 1 Tryd.underlying22 hi hz0 hz1 .i64 .i64 _ _ ps.length rfl rfl rfl rfl (by rw [hz2]; omega) (by unfold maxLen; omega) (Nat.le_refl _) ?_; intro w4 hown hgrow)
  have HO : Hid (OwnI w4 w3.heap.size w3.heap.size ps.length (List.replicate ps.length 0)) := by
    rw [made_ints] at hown
    exact hown
  have HGM : Hid (Old w3 w4) := Old.by_ (Old.refl _) hgrow (fun b hb => by cases hb)
  clear hown hgrow
  go_loopw [38] (fun i W => ∃ k : Nat, k ≤ ps.length ∧ i = .int .i64 k ∧ Hid (OwnI W w3.heap.size w3.heap.size ps.length (fillN ss k)) ∧ Hid (Old w3 W)) (fun i _ => ps.length - (intOf i).toNat)
  case atStart => exact ⟨0, by omega, rfl, (by show OwnI _ _ _ _ _; rw [fillN_zero, hlen]; exact HO.out), HGM⟩
  case round =>
    obtain ⟨k, hk, rfl, HO1, HG⟩ := hrel
    clear HO HGM
    have HGw : Hid (Old w wr) := Old.trans HG3.out HG.out
    by_cases hlt : k < ps.length
    · have d1 : decide ((k : Int) < (ps.length : Int)) = true := by simp; omega
      have i1 : (k : Int) < (ps.length : Int) := by omega
      have k1 : wr.cell? ⟨b1, o1 + k, none⟩ = some (.int .i64 ((rs.getD k 0 : Nat) : Int)) := (HGw.out.cell (p := ⟨b1, o1 + k, none⟩) hb1).trans (HC1.out k hlt)
      have k2 : wr.cell? ⟨b2, o2 + k, none⟩ = some (.int .i64 ((ps.getD k 0 : Nat) : Int)) := (HGw.out.cell (p := ⟨b2, o2 + k, none⟩) hb2).trans (HC2.out k hlt)
      obtain ⟨x1, x2, x3⟩ := HBD.out k hlt
      have HX : Hid (ss.getD k 0 = ((pmN (ps.getD k 0) [rs.getD k 0, T, G] : Nat) : Int)) := HEL.out k hlt
      have cp : ∀ W : World, Calls Tryd.prog 81 #[.int .i64 ((ps.getD k 0 : Nat) : Int), .slice (some ⟨W.heap.size, 0, none⟩) 3 3] (W.alloc (.cells #[.int .i64 ((rs.getD k 0 : Nat) : Int), .int .i64 (T : Int), .int .i64 (G : Int)] 3)) fun e w' => e = .returned (.int .i64 ((pmN (ps.getD k 0) [rs.getD k 0, T, G] : Nat) : Int)) ∧ Old (W.alloc (.cells #[.int .i64 ((rs.getD k 0 : Nat) : Int), .int .i64 (T : Int), .int .i64 (G : Int)] 3)) w' := fun W =>
        pmod_any (ps.getD k 0) [rs.getD k 0, T, G] _ _ ⟨x2, x3⟩ (three_row W _ _ _ _) (by simp) (fun p hp => by
          simp only [List.mem_cons, List.not_mem_nil, or_false] at hp
          rcases hp with rfl | rfl | rfl <;> omega)
      have hyl := pmN_lt (ps.getD k 0) [rs.getD k 0, T, G] x2
      have HPU : Hid (∀ W, OwnI W w3.heap.size w3.heap.size ps.length (fillN ss k) → OwnI (W.setCell ⟨w3.heap.size, k, none⟩ (.int .i64 ((pmN (ps.getD k 0) [rs.getD k 0, T, G] : Nat) : Int))) w3.heap.size w3.heap.size ps.length (fillN ss (k + 1))) := fun W h => by
        have := h.put k (ss.getD k 0)
        rw [fillN_set ss k (by omega), HX.out] at this
        exact this
      clear HX
      generalize pmN (ps.getD k 0) [rs.getD k 0, T, G] = y at *
      generalize ps.getD k 0 = p at *
      generalize rs.getD k 0 = r at *
      go_wp2_with fail
      refine (cp _).mono ?_
      rintro e w5 ⟨rfl, g5⟩
      have HO5 : Hid (OwnI w5 w3.heap.size w3.heap.size ps.length (fillN ss k)) := HO1.out.old (Old.trans ((Old.refl wr).alloc _) g5)
      have HG5 : Hid (Old w3 w5) := Old.trans HG.out (Old.trans ((Old.refl wr).alloc _) g5)
      have k3 := HO5.out.get (fillN_len ss k (by omega) |>.trans hlen) k hlt
      have k4 := HO5.out.free k
      generalize (fillN ss k).getD k 0 = oldv at *
      clear g5
      go_wp2_with fail
      exact ⟨⟨k + 1, by omega, by go_num, HPU.out _ HO5.out, HG5.out.own (Nat.le_refl _) _⟩, by simp [intOf]; omega⟩
    · have d1 : decide ((k : Int) < (ps.length : Int)) = false := by simp; omega
      obtain rfl : k = ps.length := by omega
      have HF : Hid (Row wr (.slice (some ⟨w3.heap.size, 0, none⟩) ps.length ps.length) ss) := by
        have := HO1.out.own ((fillN_len ss ps.length (by omega)).trans hlen)
        rw [show fillN ss ps.length = ss by rw [← hlen]; exact fillN_all ss] at this
        exact Own.row this
      clear HO1
      go_wp2_with fail
      refine (cc _ _ HF.out (HU.out.old HGw.out)).mono ?_
      rintro e wa ⟨g, rfl, ga, C2⟩
      have HGA : Hid (Old w wa) := Old.trans HGw.out ga
      have HC3 : Hid (Cv wa ps ys (.slice (some ⟨b2, o2, none⟩) ps.length cap2) (.slice (some ⟨g, 0, none⟩) ps.length ps.length)) := C2
      clear ga C2 HF cc
      go_wp2_with fail
      have HGW : Hid (Old wa ((wa.alloc (.cells #[.func (.func 50) #[] #[], .func (.func 69) #[] #[]] 81)).alloc (.cells #[.slice (some ⟨b2, o2, none⟩) ps.length cap2, .slice (some ⟨g, 0, none⟩) ps.length ps.length, .int .i64 0, .int .i64 0, .slice (some ⟨wa.heap.size, 0, none⟩) 2 2] 85))) := ((Old.refl wa).alloc _).alloc _
      have HSL : Hid (StL ((wa.alloc (.cells #[.func (.func 50) #[] #[], .func (.func 69) #[] #[]] 81)).alloc (.cells #[.slice (some ⟨b2, o2, none⟩) ps.length cap2, .slice (some ⟨g, 0, none⟩) ps.length ps.length, .int .i64 0, .int .i64 0, .slice (some ⟨wa.heap.size, 0, none⟩) 2 2] 85)) wa.heap.size) := StL.new wa _ _
      refine (CU.out _ g wa.heap.size (HC3.out.old HGW.out) HSL.out).mono ?_
      rintro e wb ⟨rfl, gb⟩
      have HGB : Hid (Old w wb) := Old.trans (Old.trans HGA.out HGW.out) gb
      have HCB : Hid (Cv wb ps ys (.slice (some ⟨b2, o2, none⟩) ps.length cap2) (.slice (some ⟨g, 0, none⟩) ps.length ps.length)) := HC3.out.old (Old.trans HGW.out gb)
      have HSB : Hid (StL wb wa.heap.size) := HSL.out.old gb
      clear gb
      go_wp2_with fail
      refine (CGG.out _ g wa.heap.size HCB.out HSB.out).mono ?_
      rintro e wd ⟨rfl, gd⟩
      have HGD : Hid (Old w wd) := Old.trans HGB.out gd
      clear gd
      go_wp2_with fail
      refine (CB _).mono ?_
      rintro e we ⟨rfl, hwe⟩
      replace hwe := hwe.symm
      subst hwe
      go_wp2_with fail
      refine (ci _).mono ?_
      rintro e we ⟨rfl, hwe⟩
      replace hwe := hwe.symm
      subst hwe
      go_wp2_with fail
      refine (cr _).mono ?_
      rintro e we ⟨rfl, hwe⟩
      replace hwe := hwe.symm
      subst hwe
      go_wp2_with fail
      go_ret2
      exact ⟨rfl, HGD.out⟩
end Go.Proofs.YtejkejfhahmhcaaDoor
