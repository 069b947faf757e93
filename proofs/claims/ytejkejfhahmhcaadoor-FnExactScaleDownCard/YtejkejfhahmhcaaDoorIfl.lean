/- Proved: contracts of the program's FloorConvert. -/
import Derived.Test.YtejkejfhahmhcaaDoorCvd
import Derived.Test.YtejkejfhahmhcaaDoorCve
import Derived.Test.YtejkejfhahmhcaaDoorCvf
import Derived.Test.YtejkejfhahmhcaaDoorCvh
import Derived.Test.YtejkejfhahmhcaaDoorCompB
import Derived.Test.YtejkejfhahmhcaaDoorResI
namespace Go.Proofs.YtejkejfhahmhcaaDoor
open Go.ChangeShapes Go.WideShapes Go.ChangeAt Go.RowKit
open M2
set_option linter.unusedVariables false
set_option linter.unusedSimpArgs false
theorem StL.new (w : World) (t : TypeId) (o : Obj) : StL ((w.alloc (.cells #[.func (.func 50) #[] #[], .func (.func 69) #[] #[]] t)).alloc o) w.heap.size :=
  ⟨by simp; omega, (cell_lt _ _ _ _ (by simp)).trans (cell_at _ _ _ _ _ rfl), (cell_lt _ _ _ _ (by simp)).trans (cell_at _ _ _ _ _ rfl)⟩
/-- what FloorConvert asks for -/
def flB (rs us xs ts : List Int) : Bool := (((basB xs && basB ts) && rsB rs xs) && rsB us ts) && !xs.any (fun x => ts.contains x)
set_option maxRecDepth 100000 in
set_option maxHeartbeats 2000000 in
theorem impl_FloorConvert_no (rs us xs ts : List Int) (v d u q : Value) (w : World) (hP : PrsW w) (hT : TabW w) (hv : Row w v rs) (hd : Row w d us) (hu : Row w u xs) (hf : Fit u) (hq : Row w q ts) (hfq : Fit q) (hl : xs.length ≤ 9223372036854775807) (hlq : ts.length ≤ 9223372036854775807) (h : flB rs us xs ts = false) :
    Calls Tryd.prog 31 #[v, d, u, q] w (Ls w [] false) := by
  have c := convertible_any rs xs ts v u q w hP hT hv hu hq hf hfq hl hlq
  have c3 := fun W h1 h2 => common_any xs ts u q W h1 h2 hl hlq
  have HD : Hid (Row w d us) := hd
  have HU : Hid (Row w u xs) := hu
  have HQ : Hid (Row w q ts) := hq
  have c2 := fun W h1 h2 h3 => areRes_any us ts d q W h1 h2 hlq h3
  obtain ⟨va, vc, rfl⟩ := hv.slice
  obtain ⟨da, dc, rfl⟩ := hd.slice
  obtain ⟨ua, uc, rfl⟩ := hu.slice
  obtain ⟨qa, qc, rfl⟩ := hq.slice
  unfold flB at h
  clear hP hT hv hu hq hf hfq hd
  cases h1 : ((basB xs && basB ts) && rsB rs xs)
  · rw [h1] at c
    clear h1 h c2 c3
    go_enter Tryd.func31, Tryd.ntmps31
    go_wp2_with fail
    refine c.mono ?_
    rintro e w1 ⟨rfl, g1⟩
    have HG1 : Hid (Old w w1) := g1
    clear g1
    go_wp2_with fail
    go_ret2
    exact ⟨_, rfl, HG1.out, own_none _ _⟩
  · rw [h1] at c h
    have ht1 : 1 ≤ ts.length := by
      simp only [Bool.and_eq_true] at h1
      exact basB_len1 h1.1.2
    cases h2 : rsB us ts
    · rw [h2] at c2
      clear h1 h2 h c3
      go_enter Tryd.func31, Tryd.ntmps31
      go_wp2_with fail
      refine c.mono ?_
      rintro e w1 ⟨rfl, g1⟩
      have HG1 : Hid (Old w w1) := g1
      clear g1
      go_wp2_with fail
      refine (c2 _ (HD.out.old HG1.out) (HQ.out.old HG1.out) ht1).mono ?_
      rintro e w2 ⟨rfl, g2⟩
      have HG2 : Hid (Old w w2) := Old.trans HG1.out g2
      clear g2
      go_wp2_with fail
      go_ret2
      exact ⟨_, rfl, HG2.out, own_none _ _⟩
    · rw [h2] at c2 h
      have h3 : xs.any (fun x => ts.contains x) = true := by simpa using h
      rw [h3] at c3
      clear h1 h2 h h3
      go_enter Tryd.func31, Tryd.ntmps31
      go_wp2_with fail
      refine c.mono ?_
      rintro e w1 ⟨rfl, g1⟩
      have HG1 : Hid (Old w w1) := g1
      clear g1
      go_wp2_with fail
      refine (c2 _ (HD.out.old HG1.out) (HQ.out.old HG1.out) ht1).mono ?_
      rintro e w2 ⟨rfl, g2⟩
      have HG2 : Hid (Old w w2) := Old.trans HG1.out g2
      clear g2
      go_wp2_with fail
      refine (c3 _ (HU.out.old HG2.out) (HQ.out.old HG2.out)).mono ?_
      rintro e w3 ⟨rfl, g3⟩
      have HG3 : Hid (Old w w3) := Old.trans HG2.out g3
      clear g3
      go_wp2_with fail
      go_ret2
      exact ⟨_, rfl, HG3.out, own_none _ _⟩
/-- by each number of ts what it is less rest -/
def stL (us ts : List Nat) : List Nat := (List.range ts.length).map (fun k => ts.getD k 0 - us.getD k 0)
theorem stL_len (us ts : List Nat) : (stL us ts).length = ts.length := by simp [stL]
theorem stL_get (us ts : List Nat) (k : Nat) (h : k < ts.length) : (stL us ts).getD k 0 = ts.getD k 0 - us.getD k 0 := by simp [stL, List.getD, h]
/-- the floors -/
def flL (ps ys us ts : List Nat) : List Nat := (List.range ts.length).map (fun k => overL (ts.getD k 0) ps (plusS (ts.getD k 0) ps ys (ts.getD k 0 - us.getD k 0)))
theorem flL_len (ps ys us ts : List Nat) : (flL ps ys us ts).length = ts.length := by simp [flL]
theorem flL_get (ps ys us ts : List Nat) (k : Nat) (h : k < ts.length) : (flL ps ys us ts).getD k 0 = overL (ts.getD k 0) ps (plusS (ts.getD k 0) ps ys (ts.getD k 0 - us.getD k 0)) := by simp [flL, List.getD, h]
set_option maxRecDepth 100000 in
set_option maxHeartbeats 4000000 in
theorem impl_FloorConvert_yes (rs us ps ts : List Nat) (v d u q : Value) (w : World) (hP : PrsW w) (hT : TabW w) (hv : Row w v (toZ rs)) (hd : Row w d (toZ us)) (hu : Row w u (toZ ps)) (hf : Fit u) (hq : Row w q (toZ ts)) (hfq : Fit q) (hR : Res rs ps) (hS : Res us ts) (h1 : ((basB (toZ ps) && basB (toZ ts)) && rsB (toZ rs) (toZ ps)) = true) (h2 : rsB (toZ us) (toZ ts) = true) (h3 : (toZ ps).any (fun x => (toZ ts).contains x) = false) :
    Calls Tryd.prog 31 #[v, d, u, q] w (Ls w (toZ (flL ps (yL rs ps) us ts)) true) := by
  obtain ⟨i0, hi, hz0, hz1, hz2⟩ := info_parts Tryd.infoInt
  have hB := hS.bas
  have hl6 := hR.bas.len6
  have ht6 := hB.len6
  have ht1 := hB.len1
  have hsl := hS.len
  have c := convertible_any (toZ rs) (toZ ps) (toZ ts) v u q w hP hT hv hu hq hf hfq (by rw [toZ_len]; omega) (by rw [toZ_len]; omega)
  rw [h1] at c
  have c2 := fun W h1 h2 => areRes_any (toZ us) (toZ ts) d q W h1 h2 (by rw [toZ_len]; omega) (by rw [toZ_len]; omega)
  rw [h2] at c2
  have c3 := fun W h1 h2 => common_any (toZ ps) (toZ ts) u q W h1 h2 (by rw [toZ_len]; omega) (by rw [toZ_len]; omega)
  rw [h3] at c3
  have cc := fun W h1 h2 => conv_any rs ps v u W h1 h2 hf hR.bas hR.len hR.lt
  have HV : Hid (Row w v (toZ rs)) := hv
  have HD : Hid (Row w d (toZ us)) := hd
  have HU : Hid (Row w u (toZ ps)) := hu
  have HQ : Hid (Row w q (toZ ts)) := hq
  obtain ⟨va, vc, rfl⟩ : ∃ a c, v = .slice a rs.length c := by have := hv.slice; rwa [toZ_len] at this
  obtain ⟨ua, uc, rfl⟩ : ∃ a c, u = .slice a ps.length c := by have := hu.slice; rwa [toZ_len] at this
  obtain ⟨b1, o1, dc, rfl, hb1, hc1⟩ := hd.atZ (by omega)
  obtain ⟨b2, o2, qc, rfl, hb2, hc2⟩ := hq.atZ (by omega)
  rw [hsl] at c2 hc1 HD ⊢
  have HC1 : Hid (∀ j, j < ts.length → w.cell? ⟨b1, o1 + j, none⟩ = some (.int .i64 ((us.getD j 0 : Nat) : Int))) := hc1
  have HC2 : Hid (∀ j, j < ts.length → w.cell? ⟨b2, o2 + j, none⟩ = some (.int .i64 ((ts.getD j 0 : Nat) : Int))) := hc2
  have HBD : Hid (∀ j, j < ts.length → us.getD j 0 < ts.getD j 0 ∧ 2 ≤ ts.getD j 0 ∧ ts.getD j 0 ≤ 268435456) := fun j hj => by
    have hm : ts.getD j 0 ∈ ts := by simp [List.getD, hj]
    exact ⟨hS.lt j hj, hB.lo _ hm, hB.hi _ hm⟩
  have hlen : (toZ (stL us ts)).length = ts.length := by rw [toZ_len, stL_len]
  have HEL : Hid (∀ k, k < ts.length → (toZ (stL us ts)).getD k 0 = ((ts.getD k 0 - us.getD k 0 : Nat) : Int)) := fun k hk => by rw [toZ_get, stL_get _ _ _ hk]
  have HM : Hid (∀ W g gs, Cv W ps (yL rs ps) (.slice ua ps.length uc) (.slice (some ⟨g, 0, none⟩) ps.length ps.length) → StL W gs → ∀ vb, Old w W → Row W vb (toZ (stL us ts)) → Calls Tryd.prog 48 #[.func (.func 71) #[.agg #[.slice ua ps.length uc, .slice (some ⟨g, 0, none⟩) ps.length ps.length, .int .i64 0, .int .i64 0, .slice (some ⟨gs, 0, none⟩) 2 2]] #[], vb, .slice (some ⟨b2, o2, none⟩) ts.length qc] W fun e w' => ∃ g, e = .returned (.slice (some ⟨g, 0, none⟩) ts.length ts.length) ∧ Old W w' ∧ Own w' W.heap.size (.slice (some ⟨g, 0, none⟩) ts.length ts.length) (toZ (flL ps (yL rs ps) us ts))) := fun W g gs hC hG vb hO hr => by
    have := eachT_any #[.slice ua ps.length uc, .slice (some ⟨g, 0, none⟩) ps.length ps.length, .int .i64 0, .int .i64 0, .slice (some ⟨gs, 0, none⟩) 2 2] (toZ (stL us ts)) (toZ ts) (toZ (flL ps (yL rs ps) us ts)) _ _ W hr (HQ.out.old hO) (by rw [toZ_len]; exact ht1) (by rw [toZ_len]; exact ht6) (by rw [toZ_len, toZ_len, stL_len]) (by rw [toZ_len, toZ_len, flL_len]) (fun k hk W2 g2 => by
      rw [toZ_len] at hk
      obtain ⟨b3, b4, b5⟩ := HBD.out k hk
      have e2 : (toZ (flL ps (yL rs ps) us ts)).getD k 0 = ((overL (ts.getD k 0) ps (plusS (ts.getD k 0) ps (yL rs ps) (ts.getD k 0 - us.getD k 0)) : Nat) : Int) := by rw [toZ_get, flL_get _ _ _ _ _ hk]
      rw [HEL.out k hk, e2, toZ_get]
      have l1 := plusS_lt (ts.getD k 0) ps (yL rs ps) (ts.getD k 0 - us.getD k 0) b4
      exact takeL_any (ts.getD k 0) gs (ts.getD k 0 - us.getD k 0) (plusS (ts.getD k 0) ps (yL rs ps) (ts.getD k 0 - us.getD k 0)) _ _ _ _ _ _ _ _ _ rfl rfl 0 0 W2 (hG.old g2)
        (fun W3 g3 => plusSum_any _ _ ps (yL rs ps) _ _ 0 0 W3 ⟨b4, b5⟩ (by omega) (hC.old (Old.trans g2 g3)))
        (fun W3 g3 => overLess_any _ _ ps (yL rs ps) _ _ 0 0 W3 ⟨b4, b5⟩ (by omega) (hC.old (Old.trans g2 g3))))
    rw [toZ_len] at this
    exact this
  generalize toZ (flL ps (yL rs ps) us ts) = zs at *
  generalize toZ (stL us ts) = ss at *
  have hmf : ∀ (fn : Fn) (first cap : Array Value) (w : World), (Instr.makeFunc fn first cap).run Tryd.prog w = .ok (.func fn first cap) w := fun _ _ _ _ => rfl
  clear hP hT hv hu hq hf hfq h1 h2 h3 hR hB hS hd hc1 hc2 hsl
  go_enter Tryd.func31, Tryd.ntmps31
  go_wp2_with fail
  refine c.mono ?_
  rintro e wa ⟨rfl, ga⟩
  have HGA : Hid (Old w wa) := ga
  clear ga c
  go_wp2_with fail
  refine (c2 _ (HD.out.old HGA.out) (HQ.out.old HGA.out)).mono ?_
  rintro e wb ⟨rfl, gb⟩
  have HGB : Hid (Old w wb) := Old.trans HGA.out gb
  clear gb c2
  go_wp2_with fail
  refine (c3 _ (HU.out.old HGB.out) (HQ.out.old HGB.out)).mono ?_
  rintro e wc ⟨rfl, gc⟩
  have HGC : Hid (Old w wc) := Old.trans HGB.out gc
  clear gc c3
  go_wp2_with (at_make; refine wpList_make_full _ rfl _ _ 22 rfl wc.heap.size 3 i0 (.int .i64 0) 1 Tryd.underlying22 hi hz0 hz1 .i64 .i64 _ _ ts.length rfl rfl rfl rfl (by rw [hz2]; omega) (by unfold maxLen; omega) (Nat.le_refl _) ?_; intro w3 hown hgrow)
  have HO : Hid (OwnI w3 wc.heap.size wc.heap.size ts.length (List.replicate ts.length 0)) := by
    rw [made_ints] at hown
    exact hown
  have HG3 : Hid (Old wc w3) := Old.by_ (Old.refl _) hgrow (fun b hb => by cases hb)
  clear hown hgrow
  go_loopw [35] (fun i W => ∃ k : Nat, k ≤ ts.length ∧ i = .int .i64 k ∧ Hid (OwnI W wc.heap.size wc.heap.size ts.length (fillN ss k)) ∧ Hid (Old wc W)) (fun i _ => ts.length - (intOf i).toNat)
  case atStart => exact ⟨0, by omega, rfl, (by show OwnI _ _ _ _ _; rw [fillN_zero, hlen]; exact HO.out), HG3⟩
  case round =>
    obtain ⟨k, hk, rfl, HO1, HG⟩ := hrel
    clear HO HG3
    have HG1 : Hid (Old w wr) := Old.trans HGC.out HG.out
    by_cases hlt : k < ts.length
    · have d1 : decide ((k : Int) < (ts.length : Int)) = true := by simp; omega
      have i1 : (k : Int) < (ts.length : Int) := by omega
      have k1 : wr.cell? ⟨b1, o1 + k, none⟩ = some (.int .i64 ((us.getD k 0 : Nat) : Int)) := (HG1.out.cell (p := ⟨b1, o1 + k, none⟩) hb1).trans (HC1.out k hlt)
      have k2 : wr.cell? ⟨b2, o2 + k, none⟩ = some (.int .i64 ((ts.getD k 0 : Nat) : Int)) := (HG1.out.cell (p := ⟨b2, o2 + k, none⟩) hb2).trans (HC2.out k hlt)
      have k3 := HO1.out.get (fillN_len ss k (by omega) |>.trans hlen) k hlt
      have k4 := HO1.out.free k
      obtain ⟨b3, b4, b5⟩ := HBD.out k hlt
      have HPU : Hid (OwnI (wr.setCell ⟨wc.heap.size, k, none⟩ (.int .i64 (((ts.getD k 0 - us.getD k 0 : Nat)) : Int))) wc.heap.size wc.heap.size ts.length (fillN ss (k + 1))) := by
        have := HO1.out.put k (ss.getD k 0)
        rw [fillN_set ss k (by omega), HEL.out k hlt] at this
        exact this
      have t1 : IntKind.i64.wrap (((ts.getD k 0 : Nat) : Int) - ((us.getD k 0 : Nat) : Int)) = ((ts.getD k 0 - us.getD k 0 : Nat) : Int) := by rw [IntKind.wrap_i64]; omega
      generalize ts.getD k 0 - us.getD k 0 = z at *
      generalize ts.getD k 0 = p at *
      generalize us.getD k 0 = r at *
      generalize (fillN ss k).getD k 0 = oldv at *
      go_wp2_with fail
      exact ⟨⟨k + 1, by omega, by go_num, HPU, HG.out.own (Nat.le_refl _) _⟩, by simp [intOf]; omega⟩
    · have d1 : decide ((k : Int) < (ts.length : Int)) = false := by simp; omega
      obtain rfl : k = ts.length := by omega
      have HF : Hid (Row wr (.slice (some ⟨wc.heap.size, 0, none⟩) ts.length ts.length) ss) := by
        have := HO1.out.own ((fillN_len ss ts.length (by omega)).trans hlen)
        rw [show fillN ss ts.length = ss by rw [← hlen]; exact fillN_all ss] at this
        exact Own.row this
      clear HO1
      go_wp2_with fail
      refine (cc _ (HV.out.old HG1.out) (HU.out.old HG1.out)).mono ?_
      rintro e w2 ⟨g, rfl, g2, C2⟩
      have HG2 : Hid (Old w w2) := Old.trans HG1.out g2
      have HC2 : Hid (Cv w2 ps (yL rs ps) (.slice ua ps.length uc) (.slice (some ⟨g, 0, none⟩) ps.length ps.length)) := C2
      have HF2 : Hid (Row w2 (.slice (some ⟨wc.heap.size, 0, none⟩) ts.length ts.length) ss) := HF.out.old g2
      clear g2 C2 HF
      go_wp2_with fail
      have HGW : Hid (Old w2 ((w2.alloc (.cells #[.func (.func 50) #[] #[], .func (.func 69) #[] #[]] 81)).alloc (.cells #[.slice ua ps.length uc, .slice (some ⟨g, 0, none⟩) ps.length ps.length, .int .i64 0, .int .i64 0, .slice (some ⟨w2.heap.size, 0, none⟩) 2 2] 85))) := ((Old.refl w2).alloc _).alloc _
      refine (HM.out _ g w2.heap.size (HC2.out.old HGW.out) (StL.new w2 _ _) _ (Old.trans HG2.out HGW.out) (HF2.out.old HGW.out)).mono ?_
      rintro e w5 ⟨g5, rfl, q5, o5⟩
      have HG5 : Hid (Old w w5) := Old.trans (Old.trans HG2.out HGW.out) q5
      have HO5 : Hid (Own w5 w.heap.size (.slice (some ⟨g5, 0, none⟩) ts.length ts.length) zs) := Own.low o5 (Old.trans HG2.out HGW.out).size
      clear q5 o5
      go_wp2_with fail
      go_ret2
      exact ⟨_, rfl, HG5.out, HO5.out⟩
end Go.Proofs.YtejkejfhahmhcaaDoor
