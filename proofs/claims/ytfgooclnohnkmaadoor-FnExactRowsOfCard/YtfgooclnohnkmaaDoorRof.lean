/- Proved: contracts of the program's areGoodWholes, leftBy and RowsOf. -/
import Derived.Test.YtfgooclnohnkmaaDoorNG
import Derived.Test.YtfgooclnohnkmaaDoorMks
import Derived.Test.YtfgooclnohnkmaaDoorResI
import Derived.Test.YtfgooclnohnkmaaDoorNB
import Derived.Test.YtfgooclnohnkmaaDoorAdn
namespace Go.Proofs.YtfgooclnohnkmaaDoor
open Go.ChangeShapes Go.WideShapes Go.ChangeAt Go.RowKit
open M2
set_option linter.unusedVariables false
set_option linter.unusedSimpArgs false
/-- what is left of each number by p -/
def lbZ (bs : List Bool) (xss : List (List Int)) (p : Int) : List Int := (List.range xss.length).map fun j => sv (bs.getD j false) (nat (xss.getD j [])) % p
theorem lbZ_len (bs : List Bool) (xss : List (List Int)) (p : Int) : (lbZ bs xss p).length = xss.length := by simp [lbZ]
theorem lbZ_get (bs : List Bool) (xss : List (List Int)) (p : Int) (j : Nat) (h : j < xss.length) : (lbZ bs xss p).getD j 0 = sv (bs.getD j false) (nat (xss.getD j [])) % p := by simp [lbZ, List.getD, h]
/-- a row for each prime -/
def rofX (bs : List Bool) (xss : List (List Int)) (ps : List Int) : List (List Int) := ps.map (lbZ bs xss)
theorem rofX_len (bs : List Bool) (xss : List (List Int)) (ps : List Int) : (rofX bs xss ps).length = ps.length := by simp [rofX]
theorem rofX_get (bs : List Bool) (xss : List (List Int)) (ps : List Int) (k : Nat) (h : k < ps.length) : (rofX bs xss ps).getD k [] = lbZ bs xss (ps.getD k 0) := by simp [rofX, List.getD, h]
/-- all are good from k on -/
def allG (bs : List Bool) (xss : List (List Int)) (k : Nat) : Bool := decide (∀ i, i < xss.length → k ≤ i → Good (bs.getD i false) (xss.getD i []))
theorem allG_end {bs : List Bool} {xss : List (List Int)} {k : Nat} (h : xss.length ≤ k) : allG bs xss k = true := decide_eq_true (fun i h1 h2 => by omega)
theorem allG_no {bs : List Bool} {xss : List (List Int)} {k : Nat} (h : k < xss.length) (hk : ¬ Good (bs.getD k false) (xss.getD k [])) : allG bs xss k = false := decide_eq_false (fun hh => hk (hh k h (Nat.le_refl _)))
theorem allG_yes {bs : List Bool} {xss : List (List Int)} {k : Nat} (hk : Good (bs.getD k false) (xss.getD k [])) : allG bs xss k = allG bs xss (k + 1) := by
  unfold allG
  congr 1
  apply propext
  constructor
  · intro h i h1 h2
    exact h i h1 (by omega)
  · intro h i h1 h2
    rcases Nat.lt_or_ge k i with h3 | h3
    · exact h i h1 (by omega)
    · obtain rfl : i = k := by omega
      exact hk
set_option maxRecDepth 100000 in
set_option maxHeartbeats 4000000 in
theorem areGood_any (bs : List Bool) (xss : List (List Int)) (v : Value) (w : World) (hv : RowW w v bs xss) (hl : xss.length ≤ 1048576) (hr : ∀ r ∈ xss, r.length ≤ 1048576) :
    Calls Tryd.prog 101 #[v] w fun e w' => e = .returned (.bool (allG bs xss 0)) ∧ Old w w' := by
  obtain ⟨a0, cap0, ev⟩ := hv.slice
  subst ev
  have HR : Hid (∀ r ∈ xss, r.length ≤ 1048576) := hr
  have HV : Hid (RowW w (.slice a0 xss.length cap0) bs xss) := hv
  obtain ⟨R, hR⟩ : ∃ R, allG bs xss 0 = R := ⟨_, rfl⟩
  have HE : Hid (allG bs xss 0 = R) := hR
  rw [hR]
  clear hv hr hR
  go_enter Tryd.func101, Tryd.ntmps101
  go_wp2_with fail
  go_loopw [7, 4] (fun i _ W => ∃ k : Nat, k ≤ xss.length ∧ i = .int .i64 k ∧ Hid (allG bs xss k = R) ∧ Hid (Old w W)) (fun i _ _ => xss.length - (intOf i).toNat)
  case atStart => exact ⟨0, by omega, rfl, HE, Old.refl _⟩
  case round =>
    obtain ⟨k, hk, rfl, H1, HG⟩ := hrel
    by_cases hlt : k < xss.length
    · have d1 : decide ((k : Int) < (xss.length : Int)) = true := by simp; omega
      obtain ⟨_, ⟨a, cap, e, e2⟩ | ⟨b, o, cap, us, e, hb2, h3, hc⟩⟩ := HV.out
      · subst e2
        simp at hlt
      simp only [Value.slice.injEq, true_and] at e
      obtain ⟨rfl, rfl⟩ := e
      obtain ⟨s0, c0, r0⟩ := hc k hlt
      have hm : xss.getD k [] ∈ xss := by simp [List.getD, hlt]
      have hrl := HR.out _ hm
      obtain ⟨x1, y1, e1⟩ := r0.slice
      rw [e1] at c0 r0
      have q0 : wr.cell? ⟨b, o + k * 2, none⟩ = some (.bool (bs.getD k false)) := (HG.out.cell (p := ⟨b, o + k * 2, none⟩) hb2).trans s0
      have q1 : wr.cell? ⟨b, o + k * 2 + 1, none⟩ = some (.slice x1 (xss.getD k []).length y1) := (HG.out.cell (p := ⟨b, o + k * 2 + 1, none⟩) hb2).trans c0
      have cg : ∀ W, Old wr W → Calls Tryd.prog 147 #[.agg #[.bool (bs.getD k false), .slice x1 (xss.getD k []).length y1]] W fun e w' => e = .returned (.bool (decide (Good (bs.getD k false) (xss.getD k [])))) ∧ Old W w' := fun W g => good_impl _ _ _ W ((r0.old HG.out).old g) hrl
      have HY : Hid (decide (Good (bs.getD k false) (xss.getD k [])) = true → allG bs xss (k + 1) = R) := fun h => by rw [← allG_yes (of_decide_eq_true h)]; exact H1.out
      have HN : Hid (decide (Good (bs.getD k false) (xss.getD k [])) = false → false = R) := fun h => by rw [← H1.out, allG_no hlt (of_decide_eq_false h)]
      clear hc c0 s0 r0 e1 hm H1
      generalize decide (Good (bs.getD k false) (xss.getD k [])) = gd at *
      generalize bs.getD k false = s at *
      generalize xss.getD k [] = xs at *
      cases gd
      · have H2 : Hid (false = R) := HN.out rfl
        clear HN HY
        go_wp2_with fail
        refine (cg _ ((Old.refl wr).alloc _)).mono ?_
        rintro e w2 ⟨rfl, g2⟩
        have HG2 : Hid (Old w w2) := Old.trans HG.out (Old.trans ((Old.refl wr).alloc _) g2)
        clear g2
        go_wp2_with fail
        go_ret
        exact ⟨ret_bb H2.out, HG2.out⟩
      · have H2 : Hid (allG bs xss (k + 1) = R) := HY.out rfl
        clear HN HY
        go_wp2_with fail
        refine (cg _ ((Old.refl wr).alloc _)).mono ?_
        rintro e w2 ⟨rfl, g2⟩
        have HG2 : Hid (Old w w2) := Old.trans HG.out (Old.trans ((Old.refl wr).alloc _) g2)
        clear g2
        go_wp2_with fail
        exact ⟨⟨k + 1, by omega, by go_num, H2, HG2⟩, by simp [intOf]; omega⟩
    · have d1 : decide ((k : Int) < (xss.length : Int)) = false := by simp; omega
      have H2 : Hid (true = R) := by show _ = _; rw [← H1.out, allG_end (by omega)]
      go_wp2_with fail
      go_ret
      exact ⟨ret_bb H2.out, HG.out⟩
set_option maxRecDepth 100000 in
set_option maxHeartbeats 4000000 in
theorem leftBy_any (bs : List Bool) (xss : List (List Int)) (p : Int) (v : Value) (w : World) (hv : RowW w v bs xss) (hl : xss.length ≤ 1048576) (hr : ∀ r ∈ xss, r.length ≤ 1048576) (hg : allG bs xss 0 = true) (hp : 2 ≤ p ∧ p ≤ 268435456) :
    Calls Tryd.prog 102 #[.int .i64 p, v] w fun e w' => e = .returned (.slice (some ⟨w.heap.size, 0, none⟩) xss.length xss.length) ∧ Old w w' ∧ Own w' w.heap.size (.slice (some ⟨w.heap.size, 0, none⟩) xss.length xss.length) (lbZ bs xss p) := by
  obtain ⟨i0, hi, hz0, hz1, hz2⟩ := info_parts Tryd.infoInt
  obtain ⟨a0, cap0, ev⟩ := hv.slice
  subst ev
  have HM : Hid (∀ k, k < xss.length → ∀ W u, Row W u (xss.getD k []) → Calls Tryd.prog 148 #[.agg #[.bool (bs.getD k false), u], .int .i64 p] W fun e w' => e = .returned (.int .i64 ((lbZ bs xss p).getD k 0)) ∧ Old W w') := fun k hk W u hru => by
    have hm : xss.getD k [] ∈ xss := by simp [List.getD, hk]
    have h1 := impl_mod (bs.getD k false) (xss.getD k []) p u W hru (hr _ hm)
    have e : modW (bs.getD k false) (xss.getD k []) p = (lbZ bs xss p).getD k 0 := by
      unfold modW
      rw [if_pos ⟨of_decide_eq_true hg k hk (Nat.zero_le _), hp⟩, lbZ_get bs xss p k hk]
    rw [e] at h1
    exact h1
  have HV : Hid (RowW w (.slice a0 xss.length cap0) bs xss) := hv
  have hlen : (lbZ bs xss p).length = xss.length := lbZ_len bs xss p
  generalize lbZ bs xss p = zs at *
  clear hv hr hg
  go_enter Tryd.func102, Tryd.ntmps102
  go_wp2_with (at_make; refine wpList_make_full _ rfl _ _ 23 rfl w.heap.size 3 i0 (.int .i64 0) 1 Tryd.underlying23 hi hz0 hz1 .i64 .i64 _ _ xss.length rfl rfl rfl rfl (by rw [hz2]; omega) (by unfold maxLen; omega) (Nat.le_refl _) ?_; intro w3 hown hgrow)
  have HO : Hid (OwnI w3 w.heap.size w.heap.size xss.length (List.replicate xss.length 0)) := by
    rw [made_ints] at hown
    exact hown
  have HG3 : Hid (Old w w3) := Old.by_ (Old.refl _) hgrow (fun b hb => by cases hb)
  clear hown hgrow
  go_loopw [13, 6, 7] (fun i _ _ W => ∃ k : Nat, k ≤ xss.length ∧ i = .int .i64 k ∧ Hid (OwnI W w.heap.size w.heap.size xss.length (fillN zs k)) ∧ Hid (Old w W)) (fun i _ _ _ => xss.length - (intOf i).toNat)
  case atStart => exact ⟨0, by omega, rfl, (by show OwnI _ _ _ _ _; rw [fillN_zero, hlen]; exact HO.out), HG3⟩
  case round =>
    obtain ⟨k, hk, rfl, HO1, HG4⟩ := hrel
    clear HO HG3
    by_cases hlt : k < xss.length
    · have d1 : decide ((k : Int) < (xss.length : Int)) = true := by simp; omega
      obtain ⟨_, ⟨a, cap, e, e2⟩ | ⟨b, o, cap, us, e, hb2, h3, hc⟩⟩ := HV.out
      · subst e2
        simp at hlt
      simp only [Value.slice.injEq, true_and] at e
      obtain ⟨rfl, rfl⟩ := e
      obtain ⟨s0, c0, r0⟩ := hc k hlt
      obtain ⟨x1, y1, e1⟩ := r0.slice
      rw [e1] at c0 r0
      have q0 : wr.cell? ⟨b, o + k * 2, none⟩ = some (.bool (bs.getD k false)) := (HG4.out.cell (p := ⟨b, o + k * 2, none⟩) hb2).trans s0
      have q1 : wr.cell? ⟨b, o + k * 2 + 1, none⟩ = some (.slice x1 (xss.getD k []).length y1) := (HG4.out.cell (p := ⟨b, o + k * 2 + 1, none⟩) hb2).trans c0
      have R1 : Hid (Row wr (.slice x1 (xss.getD k []).length y1) (xss.getD k [])) := r0.old HG4.out
      have cm := HM.out k hlt
      have HPU : Hid (∀ W, OwnI W w.heap.size w.heap.size xss.length (fillN zs k) → OwnI (W.setCell ⟨w.heap.size, k, none⟩ (.int .i64 (zs.getD k 0))) w.heap.size w.heap.size xss.length (fillN zs (k + 1))) := fun W h => by
        have := h.put k (zs.getD k 0)
        rw [fillN_set zs k (by omega)] at this
        exact this
      have i1 : (k : Int) < (xss.length : Int) := by omega
      clear hc c0 s0 r0 e1
      generalize bs.getD k false = s at *
      generalize xss.getD k [] = xs at *
      generalize zs.getD k 0 = y at *
      go_wp2_with fail
      refine (cm _ _ (R1.out.old ((Old.refl wr).alloc _))).mono ?_
      rintro e w4 ⟨rfl, g4⟩
      have g5 : Old wr w4 := Old.trans ((Old.refl wr).alloc _) g4
      have HO4 : Hid (OwnI w4 w.heap.size w.heap.size xss.length (fillN zs k)) := HO1.out.old g5
      have HG6 : Hid (Old w w4) := Old.trans HG4.out g5
      have c3 := HO4.out.get (fillN_len zs k (by omega) |>.trans hlen) k hlt
      have c4 := HO4.out.free k
      generalize (fillN zs k).getD k 0 = oldv at *
      clear g4 g5 q0 q1
      go_wp2_with fail
      exact ⟨⟨k + 1, by omega, by go_num, HPU.out _ HO4.out, HG6.out.own (Nat.le_refl _) _⟩, by simp [intOf]; omega⟩
    · have d1 : decide ((k : Int) < (xss.length : Int)) = false := by simp; omega
      obtain rfl : k = xss.length := by omega
      have HF : Hid (Own wr w.heap.size (.slice (some ⟨w.heap.size, 0, none⟩) xss.length xss.length) zs) := by
        have := HO1.out.own ((fillN_len zs xss.length (by omega)).trans hlen)
        rw [show fillN zs xss.length = zs by rw [← hlen]; exact fillN_all zs] at this
        exact this
      go_wp2_with fail
      go_ret
      exact ⟨rfl, HG4.out, HF.out⟩
/-- whether rows are told -/
def roB (N : Int) (ps : List Int) (bs : List Bool) (xss : List (List Int)) : Bool := spB N ps && (decide ((xss.length : Int) = N) && allG bs xss 0)
theorem st_bk {w : World} {k : Nat} {x y : Value} {t : TypeId} (h : StW w k x y t) : Bk w k #[x, y] t := h
theorem bk_st {w : World} {k : Nat} {x y : Value} {t : TypeId} (h : Bk w k #[x, y] t) : StW w k x y t := h
set_option maxRecDepth 100000 in
set_option maxHeartbeats 4000000 in
theorem impl_RowsOf_no (N : Int) (ps : List Int) (bs : List Bool) (xss : List (List Int)) (v u : Value) (w : World) (hP : PrsW w) (hT : TabW w) (hv : Row w v ps) (hf : Fit v) (hlp : ps.length ≤ 1048576) (hu : RowW w u bs xss) (hl : xss.length ≤ 1048576) (hr : ∀ r ∈ xss, r.length ≤ 1048576) (hno : roB N ps bs xss = false) :
    Calls Tryd.prog 32 #[.agg #[.int .i64 N, v], u] w (Rs w false [] false) := by
  obtain ⟨a0, c0, rfl⟩ := hv.slice
  have HV : Hid (Row w (.slice a0 ps.length c0) ps) := hv
  obtain ⟨a1, c1, eu⟩ := hu.slice
  subst eu
  have HU : Hid (RowW w (.slice a1 xss.length c1) bs xss) := hu
  have HA : Hid (Old w ((w.alloc (.cells #[.int .i64 N, .slice a0 ps.length c0] 57)).alloc (.cells #[.bool false, .slice none 0 0] 54))) := ((Old.refl w).alloc _).alloc _
  have BA : Hid (Bk ((w.alloc (.cells #[.int .i64 N, .slice a0 ps.length c0] 57)).alloc (.cells #[.bool false, .slice none 0 0] 54)) w.heap.size #[.int .i64 N, .slice a0 ps.length c0] 57) := (Bk.new' w _ _ rfl).alloc _
  have BR : Hid (Bk ((w.alloc (.cells #[.int .i64 N, .slice a0 ps.length c0] 57)).alloc (.cells #[.bool false, .slice none 0 0] 54)) (w.heap.size + 1) #[.bool false, .slice none 0 0] 54) := Bk.new' _ _ _ (by simp)
  have K1 : ∀ W, Old w W → Calls Tryd.prog 100 #[.agg #[.int .i64 N, .slice a0 ps.length c0]] W fun e w' => e = .returned (.bool (spB N ps)) ∧ Old W w' := fun W g => impl_goodSpace N ps _ W (hP.old g) (hT.old g) (hv.old g) hf (by omega)
  have K2 : ∀ W, Old w W → Calls Tryd.prog 101 #[.slice a1 xss.length c1] W fun e w' => e = .returned (.bool (allG bs xss 0)) ∧ Old W w' := fun W g => areGood_any bs xss _ W (hu.old g) hl hr
  unfold roB at hno
  generalize spB N ps = s1 at *
  generalize allG bs xss 0 = s3 at *
  clear hv hu hr hf
  cases s1
  · clear K2 hno
    go_enter Tryd.func32, Tryd.ntmps32
    go_wp2_with fail
    refine (K1 _ HA.out).mono ?_
    rintro e w1 ⟨rfl, g1⟩
    have HG1 : Hid (Old w w1) := Old.trans HA.out g1
    have B1 : Hid (Bk w1 w.heap.size #[.int .i64 N, .slice a0 ps.length c0] 57) := BA.out.old g1
    have R1 : Hid (Bk w1 (w.heap.size + 1) #[.bool false, .slice none 0 0] 54) := BR.out.old g1
    clear g1
    have z0 := B1.out.c (i := 0) rfl
    have z1 := B1.out.c (i := 1) rfl
    have y0 := R1.out.c (i := 0) rfl
    have y1 := R1.out.c (i := 1) rfl
    have f0 : w1.frozen? ⟨w.heap.size + 1, 0, none⟩ = false := frozen_of_row _ _ _ _ _ R1.out
    have f1 : w1.frozen? ⟨w.heap.size + 1, 1, none⟩ = false := frozen_of_row _ _ _ _ _ R1.out
    go_wp2_with fail
    refine bodyPost_ret (ret_rb (x := .bool false) (y := .slice none 0 0) (z := .bool false) Tryd.results32 _ _ rfl rfl (st_put2 (bk_st R1.out) _ _)) rfl ⟨_, rfl, ?_, XR.nil _ _ _ _ (Nat.le_refl _)⟩
    exact (HG1.out.own (p := ⟨w.heap.size + 1, 0, none⟩) (by simp) _).own (p := ⟨w.heap.size + 1, 1, none⟩) (by simp) _
  by_cases hn : (xss.length : Int) = N
  case neg =>
    have dn : ((xss.length : Int) != N) = true := by simpa using hn
    clear K2 hno hn
    go_enter Tryd.func32, Tryd.ntmps32
    go_wp2_with fail
    refine (K1 _ HA.out).mono ?_
    rintro e w1 ⟨rfl, g1⟩
    have HG1 : Hid (Old w w1) := Old.trans HA.out g1
    have B1 : Hid (Bk w1 w.heap.size #[.int .i64 N, .slice a0 ps.length c0] 57) := BA.out.old g1
    have R1 : Hid (Bk w1 (w.heap.size + 1) #[.bool false, .slice none 0 0] 54) := BR.out.old g1
    clear g1
    have z0 := B1.out.c (i := 0) rfl
    have z1 := B1.out.c (i := 1) rfl
    have y0 := R1.out.c (i := 0) rfl
    have y1 := R1.out.c (i := 1) rfl
    have f0 : w1.frozen? ⟨w.heap.size + 1, 0, none⟩ = false := frozen_of_row _ _ _ _ _ R1.out
    have f1 : w1.frozen? ⟨w.heap.size + 1, 1, none⟩ = false := frozen_of_row _ _ _ _ _ R1.out
    go_wp2_with fail
    refine bodyPost_ret (ret_rb (x := .bool false) (y := .slice none 0 0) (z := .bool false) Tryd.results32 _ _ rfl rfl (st_put2 (bk_st R1.out) _ _)) rfl ⟨_, rfl, ?_, XR.nil _ _ _ _ (Nat.le_refl _)⟩
    exact (HG1.out.own (p := ⟨w.heap.size + 1, 0, none⟩) (by simp) _).own (p := ⟨w.heap.size + 1, 1, none⟩) (by simp) _
  have dn : ((xss.length : Int) != N) = false := by simpa using hn
  rw [decide_eq_true hn] at hno
  obtain rfl : s3 = false := by simpa using hno
  clear hno hn
  go_enter Tryd.func32, Tryd.ntmps32
  go_wp2_with fail
  refine (K1 _ HA.out).mono ?_
  rintro e w1 ⟨rfl, g1⟩
  have HG1 : Hid (Old w w1) := Old.trans HA.out g1
  have B1 : Hid (Bk w1 w.heap.size #[.int .i64 N, .slice a0 ps.length c0] 57) := BA.out.old g1
  have R1 : Hid (Bk w1 (w.heap.size + 1) #[.bool false, .slice none 0 0] 54) := BR.out.old g1
  clear g1
  have z0 := B1.out.c (i := 0) rfl
  have z1 := B1.out.c (i := 1) rfl
  have y0 := R1.out.c (i := 0) rfl
  have y1 := R1.out.c (i := 1) rfl
  have f0 : w1.frozen? ⟨w.heap.size + 1, 0, none⟩ = false := frozen_of_row _ _ _ _ _ R1.out
  have f1 : w1.frozen? ⟨w.heap.size + 1, 1, none⟩ = false := frozen_of_row _ _ _ _ _ R1.out
  go_wp2_with fail
  refine (K2 _ HG1.out).mono ?_
  rintro e w2 ⟨rfl, g2⟩
  have HG2 : Hid (Old w w2) := Old.trans HG1.out g2
  have R2 : Hid (Bk w2 (w.heap.size + 1) #[.bool false, .slice none 0 0] 54) := R1.out.old g2
  clear g2 y0 y1 f0 f1 z0 z1
  have y0 := R2.out.c (i := 0) rfl
  have y1 := R2.out.c (i := 1) rfl
  have f0 : w2.frozen? ⟨w.heap.size + 1, 0, none⟩ = false := frozen_of_row _ _ _ _ _ R2.out
  have f1 : w2.frozen? ⟨w.heap.size + 1, 1, none⟩ = false := frozen_of_row _ _ _ _ _ R2.out
  go_wp2_with fail
  refine bodyPost_ret (ret_rb (x := .bool false) (y := .slice none 0 0) (z := .bool false) Tryd.results32 _ _ rfl rfl (st_put2 (bk_st R2.out) _ _)) rfl ⟨_, rfl, ?_, XR.nil _ _ _ _ (Nat.le_refl _)⟩
  exact (HG2.out.own (p := ⟨w.heap.size + 1, 0, none⟩) (by simp) _).own (p := ⟨w.heap.size + 1, 1, none⟩) (by simp) _
set_option maxRecDepth 100000 in
set_option maxHeartbeats 4000000 in
theorem impl_RowsOf_yes (N : Int) (ps : List Int) (bs : List Bool) (xss : List (List Int)) (v u : Value) (w : World) (hP : PrsW w) (hT : TabW w) (hv : Row w v ps) (hf : Fit v) (hlp : ps.length ≤ 1048576) (hu : RowW w u bs xss) (hl : xss.length ≤ 1048576) (hr : ∀ r ∈ xss, r.length ≤ 1048576) (hyes : roB N ps bs xss = true) :
    Calls Tryd.prog 32 #[.agg #[.int .i64 N, v], u] w (Rs w false (rofX bs xss ps) true) := by
  obtain ⟨j0, ji, jz0, jz1, jz2⟩ := info_parts Tryd.infoInts
  have hy2 := hyes
  unfold roB at hy2
  simp only [Bool.and_eq_true, decide_eq_true_eq] at hy2
  obtain ⟨hs1, hn, hs3⟩ := hy2
  obtain ⟨hb16, hpm⟩ := bas_at (sp_ring hs1).2.1
  obtain ⟨a0, c0, rfl⟩ := hv.slice
  have HV : Hid (Row w (.slice a0 ps.length c0) ps) := hv
  obtain ⟨a1, c1, eu⟩ := hu.slice
  subst eu
  have HU : Hid (RowW w (.slice a1 xss.length c1) bs xss) := hu
  have HA : Hid (Old w ((w.alloc (.cells #[.int .i64 N, .slice a0 ps.length c0] 57)).alloc (.cells #[.bool false, .slice none 0 0] 54))) := ((Old.refl w).alloc _).alloc _
  have BA : Hid (Bk ((w.alloc (.cells #[.int .i64 N, .slice a0 ps.length c0] 57)).alloc (.cells #[.bool false, .slice none 0 0] 54)) w.heap.size #[.int .i64 N, .slice a0 ps.length c0] 57) := (Bk.new' w _ _ rfl).alloc _
  have BR : Hid (Bk ((w.alloc (.cells #[.int .i64 N, .slice a0 ps.length c0] 57)).alloc (.cells #[.bool false, .slice none 0 0] 54)) (w.heap.size + 1) #[.bool false, .slice none 0 0] 54) := Bk.new' _ _ _ (by simp)
  have K1 : ∀ W, Old w W → Calls Tryd.prog 100 #[.agg #[.int .i64 N, .slice a0 ps.length c0]] W fun e w' => e = .returned (.bool true) ∧ Old W w' := fun W g => by rw [← hs1]; exact impl_goodSpace N ps _ W (hP.old g) (hT.old g) (hv.old g) hf (by omega)
  have K2 : ∀ W, Old w W → Calls Tryd.prog 101 #[.slice a1 xss.length c1] W fun e w' => e = .returned (.bool true) ∧ Old W w' := fun W g => by rw [← hs3]; exact areGood_any bs xss _ W (hu.old g) hl hr
  have HM : Hid (∀ k, k < ps.length → ∀ W, Old w W → Calls Tryd.prog 102 #[.int .i64 (ps.getD k 0), .slice a1 xss.length c1] W fun e w' => e = .returned (.slice (some ⟨W.heap.size, 0, none⟩) xss.length xss.length) ∧ Old W w' ∧ Own w' W.heap.size (.slice (some ⟨W.heap.size, 0, none⟩) xss.length xss.length) ((rofX bs xss ps).getD k [])) := fun k hk W g => by
    rw [rofX_get bs xss ps k hk]
    exact leftBy_any bs xss (ps.getD k 0) _ W (hu.old g) hl hr hs3 (pm_bd (hpm k hk))
  have HRL : Hid (∀ k, k < ps.length → ((rofX bs xss ps).getD k []).length = xss.length) := fun k hk => by rw [rofX_get bs xss ps k hk, lbZ_len]
  have hzl : (rofX bs xss ps).length = ps.length := rofX_len bs xss ps
  have dn : ((xss.length : Int) != N) = false := by simpa using hn
  have HF : Hid (∀ w' a c, Old w w' → OwS (rofX bs xss ps) w' w.heap.size w'.heap.size (.slice a ps.length c) → Rs w false (rofX bs xss ps) true (.returned (.tuple #[.agg #[.bool false, .slice a ps.length c], .bool true])) w') := fun w' a c g o => ⟨_, rfl, g, a, c, by rw [hzl], by rw [hzl]; exact o⟩
  generalize rofX bs xss ps = zss at *
  clear hv hu hr hf hyes hs1 hs3 hpm hP hT hn
  go_enter Tryd.func32, Tryd.ntmps32
  go_wp2_with fail
  refine (K1 _ HA.out).mono ?_
  rintro e w1 ⟨rfl, g1⟩
  have HG1 : Hid (Old w w1) := Old.trans HA.out g1
  have B1 : Hid (Bk w1 w.heap.size #[.int .i64 N, .slice a0 ps.length c0] 57) := BA.out.old g1
  have R1 : Hid (Bk w1 (w.heap.size + 1) #[.bool false, .slice none 0 0] 54) := BR.out.old g1
  clear g1
  have z0 := B1.out.c (i := 0) rfl
  have z1 := B1.out.c (i := 1) rfl
  have y0 := R1.out.c (i := 0) rfl
  have y1 := R1.out.c (i := 1) rfl
  have f0 : w1.frozen? ⟨w.heap.size + 1, 0, none⟩ = false := frozen_of_row _ _ _ _ _ R1.out
  have f1 : w1.frozen? ⟨w.heap.size + 1, 1, none⟩ = false := frozen_of_row _ _ _ _ _ R1.out
  go_wp2_with fail
  refine (K2 _ HG1.out).mono ?_
  rintro e w2 ⟨rfl, g2⟩
  have HG2 : Hid (Old w w2) := Old.trans HG1.out g2
  have B2 : Hid (Bk w2 w.heap.size #[.int .i64 N, .slice a0 ps.length c0] 57) := B1.out.old g2
  have R2 : Hid (Bk w2 (w.heap.size + 1) #[.bool false, .slice none 0 0] 54) := R1.out.old g2
  have hs2 : w.heap.size + 1 < w2.heap.size := R2.out.lt
  clear g2 y0 y1 f0 f1 z0 z1
  have z1 := B2.out.c (i := 1) rfl
  go_wp2_with (at_make; refine wpList_make_full _ rfl _ _ 52 rfl w2.heap.size 23 j0 (.slice none 0 0) 1 Tryd.underlying52 ji jz0 jz1 .i64 .i64 _ _ ps.length rfl rfl rfl rfl (by rw [jz2]; omega) (by unfold maxLen; omega) (Nat.le_refl _) ?_; intro w3 hown hgrow; have z13 := ((B2.out.old (Below.grown (Below.refl _ _) hgrow (Nat.le_refl _) (fun _ h => by cases h))).c (i := 1) rfl))
  have HM0 : Hid (MkS zss w3 w2.heap.size w2.heap.size 0) := by
    refine MkS.start ?_
    rw [hzl]
    have hmade : (madeCells (Value.slice none 0 0).cells (ps.length * 1)).toList = List.replicate ps.length (Value.slice none 0 0) := by
      rw [Nat.mul_one]
      exact toList_madeCells_one (.slice none 0 0) ps.length
    rw [hmade] at hown
    exact hown
  have HG3 : Hid (Old w2 w3) := Below.grown (Below.refl _ _) hgrow (Nat.le_refl _) (fun _ h => by cases h)
  have hs3 : w2.heap.size < w3.heap.size := (hown.lt w2.heap.size rfl).2
  clear hown hgrow z1 z13
  go_loopw [32, 7, 8] (fun i _ _ W => ∃ k : Nat, k ≤ ps.length ∧ i = .int .i64 k ∧ Hid (MkS zss W w2.heap.size w2.heap.size k) ∧ Hid (Old w2 W) ∧ w2.heap.size < W.heap.size) (fun i _ _ _ => ps.length - (intOf i).toNat)
  case atStart => exact ⟨0, by omega, rfl, HM0, HG3, hs3⟩
  case round =>
    obtain ⟨k, hk, rfl, H1, HG4, hsr⟩ := hrel
    clear HM0 HG3 hs3
    have HG5 : Hid (Old w wr) := Old.trans HG2.out HG4.out
    by_cases hlt : k < ps.length
    · have d1 : decide ((k : Int) < (ps.length : Int)) = true := by simp; omega
      rcases HV.out.old HG5.out with ⟨a, cap, e, e2⟩ | ⟨b, o, cap, e, hb2, h3, hc⟩
      · subst e2
        simp at hlt
      simp only [Value.slice.injEq, true_and] at e
      obtain ⟨rfl, rfl⟩ := e
      have q1 := hc k hlt
      have cm := HM.out k hlt
      have hrl := HRL.out k hlt
      have HST : Hid (∀ W' : World, Old wr W' → Own W' wr.heap.size (.slice (some ⟨wr.heap.size, 0, none⟩) xss.length xss.length) (zss.getD k []) → MkS zss (W'.setCell ⟨w2.heap.size, k, none⟩ (.slice (some ⟨wr.heap.size, 0, none⟩) xss.length xss.length)) w2.heap.size w2.heap.size (k + 1)) := fun W' q o => MkS.step H1.out (by omega) q (by omega) hsr hrl (Nat.le_refl _) o (Nat.le_refl _)
      have HCE : Hid (∀ W' : World, Old wr W' → (∃ y, W'.cell? ⟨w2.heap.size, k, none⟩ = some y) ∧ W'.frozen? ⟨w2.heap.size, k, none⟩ = false) := fun W' q => (H1.out.own_old q).cell k (by omega)
      clear hc
      generalize ps.getD k 0 = p at *
      generalize zss.getD k [] = zs at *
      go_wp2_with fail
      refine (cm _ HG5.out).mono ?_
      rintro e w4 ⟨rfl, g4, o4⟩
      have N1 : Hid (MkS zss (w4.setCell ⟨w2.heap.size, k, none⟩ (.slice (some ⟨wr.heap.size, 0, none⟩) xss.length xss.length)) w2.heap.size w2.heap.size (k + 1)) := HST.out w4 g4 o4
      have N2 : Hid (Old w2 (w4.setCell ⟨w2.heap.size, k, none⟩ (.slice (some ⟨wr.heap.size, 0, none⟩) xss.length xss.length))) := (Old.trans HG4.out g4).own (p := ⟨w2.heap.size, k, none⟩) (Nat.le_refl _) _
      have N3 : w2.heap.size < (w4.setCell ⟨w2.heap.size, k, none⟩ (.slice (some ⟨wr.heap.size, 0, none⟩) xss.length xss.length)).heap.size := by have := g4.size; simp; omega
      obtain ⟨⟨y, hy⟩, hfz⟩ := HCE.out w4 g4
      clear g4 o4 HST HCE cm H1
      go_wp2_with fail
      exact ⟨⟨k + 1, by omega, by go_num, N1, N2, by simpa using N3⟩, by simp [intOf]; omega⟩
    · have d1 : decide ((k : Int) < (ps.length : Int)) = false := by simp; omega
      obtain rfl : k = ps.length := by omega
      have HO : Hid (OwS zss wr w2.heap.size wr.heap.size (.slice (some ⟨w2.heap.size, 0, none⟩) ps.length ps.length)) := by
        have h5 : MkS zss wr w2.heap.size w2.heap.size zss.length := by rw [hzl]; exact H1.out
        have h6 := h5.done (Nat.le_refl _) hsr
        rw [hzl] at h6
        exact h6
      have R3 : Hid (Bk wr (w.heap.size + 1) #[.bool false, .slice none 0 0] 54) := R2.out.old HG4.out
      have y0 := R3.out.c (i := 0) rfl
      have y1 := R3.out.c (i := 1) rfl
      have f0 : wr.frozen? ⟨w.heap.size + 1, 0, none⟩ = false := frozen_of_row _ _ _ _ _ R3.out
      have f1 : wr.frozen? ⟨w.heap.size + 1, 1, none⟩ = false := frozen_of_row _ _ _ _ _ R3.out
      clear H1
      go_wp2_with fail
      refine bodyPost_ret (ret_rb (x := .bool false) (y := .slice (some ⟨w2.heap.size, 0, none⟩) ps.length ps.length) (z := .bool true) Tryd.results32 _ _ rfl rfl (st_put2 (bk_st R3.out) _ _)) rfl (HF.out _ _ _ ?_ ?_)
      · exact (HG5.out.own (p := ⟨w.heap.size + 1, 0, none⟩) (by simp) _).own (p := ⟨w.heap.size + 1, 1, none⟩) (by simp) _
      · have h2 := (HO.out.put (k := w.heap.size + 1) (j := 0) (x := .bool false) (by omega)).put (k := w.heap.size + 1) (j := 1) (x := .slice (some ⟨w2.heap.size, 0, none⟩) ps.length ps.length) (by omega)
        have h3 := h2.low (lo' := w.heap.size) (by omega)
        exact h3.high (by simp) (Nat.le_refl _)
end Go.Proofs.YtfgooclnohnkmaaDoor
