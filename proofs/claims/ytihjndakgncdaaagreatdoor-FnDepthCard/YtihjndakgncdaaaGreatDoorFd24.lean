/- Proved: several texts in one: what each proves is said ahead of it. -/
import Derived.Test.YtihjndakgncdaaaGreatDoorFd23
import Derived.Test.YtihjndakgncdaaaGreatDoorFd08
import Derived.Test.YtihjndakgncdaaaGreatDoorFd21
import Derived.RangeFuncLeaves
/- Proved: the iterator over bounds (deeperBounds$1) with the rounds of DepthOf's loop. -/
namespace Go.Proofs.YtihjndakgncdaaaGreatDoor
open Go.ChangeShapes Go.WideShapes Go.ChangeAt Go.RowKit
open M2
set_option linter.unusedVariables false
set_option linter.unusedSimpArgs false
def dpM (Bd : Nat) (W : World) : Nat := match W.cell? ⟨Bd, 0, none⟩ with
  | some (.int _ d) => (21 - d).toNat
  | _ => 0
set_option maxRecDepth 100000 in
set_option maxHeartbeats 4000000 in
theorem dp_iter (fn : FuncId) (D l Bd Bl Br m : Nat) (SL : Array Value) (S SP : Nat → Array Value) (C : Nat → Int) (N T E : Int) (a3 : Option Addr) (l3 c3 : Nat) (a4 : Option Addr) (l4 c4 : Nat) (a6 : Option Addr) (l6 c6 : Nat) (w W : World) (hS : ∀ k, Sq (S k)) (h0 : Old w W) (hwd : w.heap.size ≤ Bd) (hwl : w.heap.size ≤ l)
    (hm : m ≤ 21) (hC : ∀ k, k < m → C k < 0) (hCm : m < 21 → 0 ≤ C m) (hd : Bk W Bd #[.int .i64 (-1)] 3) (hL : Sg W Bl SL) (hr : Bk W Br #[.int .i64 N, .int .i64 T, .int .i64 E, .slice a3 l3 c3, .slice a4 l4 c4, .bool false, .slice a6 l6 c6] 48) (h1 : Bd ≠ l) (h2 : Bl ≠ l) (h3 : Bl ≠ Bd) (h4 : Br ≠ l) (h5 : Br ≠ Bd)
    (KC : ∀ k, k ≤ m → k ≠ 21 → ∀ W', Calls Tryz.prog 20 #[.agg (S k), .agg SL] W' fun e w' => e = .returned (.int .i64 (C k)) ∧ Old W' w')
    (KF : ∀ W', Old w W' → Calls Tryz.prog 28 #[.agg #[.int .i64 N, .int .i64 T, .int .i64 E, .slice a3 l3 c3, .slice a4 l4 c4, .bool false, .slice a6 l6 c6]] W' fun e w' => e = .returned (.agg (S 0)) ∧ Old W' w')
    (KP : ∀ k, k < m → ∀ W', Old w W' → Calls Tryz.prog 31 #[.agg #[.int .i64 N, .int .i64 T, .int .i64 E, .slice a3 l3 c3, .slice a4 l4 c4, .bool false, .slice a6 l6 c6], .agg (S k), .agg (S k)] W' fun e w' => e = .returned (.agg (SP k)) ∧ Old W' w')
    (KW : ∀ k, k < m → ∀ W', Old w W' → Calls Tryz.prog 33 #[.agg #[.int .i64 N, .int .i64 T, .int .i64 E, .slice a3 l3 c3, .slice a4 l4 c4, .bool false, .slice a6 l6 c6], .agg (SP k)] W' fun e w' => e = .returned (.agg (S (k + 1))) ∧ Old W' w')
    (y0 y1 y2 y3 y4 y5 y8 y9 y10 y11 y12 y13 y14 y15 y16 y17 y18 y19 y21 y22 y23 y24 y25 y26 y27 y28 y29 y30 y31 y32 y20 : Value) (hl : W.heap[l]? = some (.loop (dpL Tryz.f5.body fn #[y0, y1, y2, y3, y4, y5, .pointer (some ⟨Bd, 0, none⟩), .pointer (some ⟨Bl, 0, none⟩), y8, y9, y10, y11, y12, y13, y14, y15, y16, y17, y18, y19, y20, y21, y22, y23, y24, y25, y26, y27, y28, y29, y30, y31, y32] D .ready none))) :
    Calls Tryz.prog 43 #[.func (.yield l) #[] #[], .pointer (some ⟨Br, 0, none⟩)] W fun e W' => (∃ v, e = .returned v) ∧ Bt Bd l W W' ∧ Bk W' Bd #[.int .i64 ((m : Int) - 1)] 3 ∧ W'.heap[l]? = some (.loop (dpL Tryz.f5.body fn #[y0, y1, y2, y3, y4, y5, .pointer (some ⟨Bd, 0, none⟩), .pointer (some ⟨Bl, 0, none⟩), y8, y9, y10, y11, y12, y13, y14, y15, y16, y17, y18, y19, y20, y21, y22, y23, y24, y25, y26, y27, y28, y29, y30, y31, y32] D .done (some (.exit 0)))) := by
  have HCC : Hid (∀ k, k < m → C k < 0) := hC
  have HCM : Hid (m < 21 → 0 ≤ C m) := hCm
  have HKC : Hid (∀ k, k ≤ m → k ≠ 21 → ∀ W', Calls Tryz.prog 20 #[.agg (S k), .agg SL] W' fun e w' => e = .returned (.int .i64 (C k)) ∧ Old W' w') := KC
  have HKP : Hid (∀ k, k < m → ∀ W', Old w W' → Calls Tryz.prog 31 #[.agg #[.int .i64 N, .int .i64 T, .int .i64 E, .slice a3 l3 c3, .slice a4 l4 c4, .bool false, .slice a6 l6 c6], .agg (S k), .agg (S k)] W' fun e w' => e = .returned (.agg (SP k)) ∧ Old W' w') := KP
  have HKW : Hid (∀ k, k < m → ∀ W', Old w W' → Calls Tryz.prog 33 #[.agg #[.int .i64 N, .int .i64 T, .int .i64 E, .slice a3 l3 c3, .slice a4 l4 c4, .bool false, .slice a6 l6 c6], .agg (SP k)] W' fun e w' => e = .returned (.agg (S (k + 1))) ∧ Old W' w') := KW
  have HHD : Hid (Bk W Bd #[.int .i64 (-1)] 3) := hd
  have HHL : Hid (Sg W Bl SL) := hL
  have HHR : Hid (Bk W Br #[.int .i64 N, .int .i64 T, .int .i64 E, .slice a3 l3 c3, .slice a4 l4 c4, .bool false, .slice a6 l6 c6] 48) := hr
  have HSQ : Hid (∀ k, Sq (S k)) := hS
  obtain ⟨r0, hr0⟩ : ∃ r0 : LoopState → Option Code → Loop, (fun st pe => dpL Tryz.f5.body fn #[y0, y1, y2, y3, y4, y5, .pointer (some ⟨Bd, 0, none⟩), .pointer (some ⟨Bl, 0, none⟩), y8, y9, y10, y11, y12, y13, y14, y15, y16, y17, y18, y19, y20, y21, y22, y23, y24, y25, y26, y27, y28, y29, y30, y31, y32] D st pe) = r0 := ⟨_, rfl⟩
  have hrr : ∀ st pe, dpL Tryz.f5.body fn #[y0, y1, y2, y3, y4, y5, .pointer (some ⟨Bd, 0, none⟩), .pointer (some ⟨Bl, 0, none⟩), y8, y9, y10, y11, y12, y13, y14, y15, y16, y17, y18, y19, y20, y21, y22, y23, y24, y25, y26, y27, y28, y29, y30, y31, y32] D st pe = r0 st pe := fun st pe => by rw [← hr0]
  have HRR : Hid (∀ st pe, dpL Tryz.f5.body fn #[y0, y1, y2, y3, y4, y5, .pointer (some ⟨Bd, 0, none⟩), .pointer (some ⟨Bl, 0, none⟩), y8, y9, y10, y11, y12, y13, y14, y15, y16, y17, y18, y19, y20, y21, y22, y23, y24, y25, y26, y27, y28, y29, y30, y31, y32] D st pe = r0 st pe) := hrr
  rw [hrr] at hl
  simp only [hrr]
  have HLL : Hid (W.heap[l]? = some (.loop (r0 .ready none))) := hl
  have HO : Hid (Old w W) := h0
  have z0 := hr.c (i := 0) rfl
  have z1 := hr.c (i := 1) rfl
  have z2 := hr.c (i := 2) rfl
  have z3 := hr.c (i := 3) rfl
  have z4 := hr.c (i := 4) rfl
  have z5 := hr.c (i := 5) rfl
  have z6 := hr.c (i := 6) rfl
  have H0 := hS 0
  clear hC hCm KC KP KW hd hL hr hS hl h0 hr0 hrr
  generalize hS0 : S 0 = S0 at KF H0
  go_enter Tryz.func43, Tryz.ntmps43
  go_wp2_with fail
  refine (KF _ HO.out).mono ?_
  rintro e w1 ⟨rfl, g1⟩
  have H : Sg (w1.alloc (.cells Tryz.zeroCells53 53)) w1.heap.size Tryz.zeroCells53 := Sg.zero w1 _ rfl
  have G1 : Hid (Old W w1) := g1
  clear g1 z0 z1 z2 z3 z4 z5 z6
  go_wp2_with (first | ((with_reducible refine store_sg H S0 H0 ?_ ?_ ?_); exact rfl; exact rfl; simp only [Act.put, List.setIfInBounds_toArray, List.set_cons_succ, List.set_cons_zero]) | fail)
  have O2 : Hid (Old W ((w1.alloc (.cells Tryz.zeroCells53 53)).setRow w1.heap.size S0)) := (G1.out.alloc _).row G1.out.size S0
  have B2 : Hid (Sg ((w1.alloc (.cells Tryz.zeroCells53 53)).setRow w1.heap.size S0) w1.heap.size (S 0)) := by rw [hS0]; exact H.row S0 H0
  obtain ⟨W2, hW2⟩ : ∃ B : World, (w1.alloc (.cells Tryz.zeroCells53 53)).setRow w1.heap.size S0 = B := ⟨_, rfl⟩
  obtain ⟨Bb, hBb⟩ : ∃ B : Nat, w1.heap.size = B := ⟨_, rfl⟩
  have hz : W.heap.size ≤ Bb := hBb ▸ G1.out.size
  rw [hW2] at O2 B2
  rw [hBb] at B2
  rw [hW2, hBb]
  have hdl := HHD.out.lt
  have hll : l < W.heap.size := (Array.getElem?_eq_some_iff.1 HLL.out).1
  have hBl := HHL.out.lt
  have hBr := HHR.out.lt
  have n1 : Bb ≠ Bd := by omega
  have n2 : Bb ≠ l := by omega
  have i1 : Hid (Bt Bd l W W2) := Bt.of O2.out
  have i2 : Hid (Bk W2 Bd #[.int .i64 (((0 : Nat) : Int) - 1)] 3) := HHD.out.old O2.out
  have i3 : Hid (W2.heap[l]? = some (.loop (r0 .ready none))) := (O2.out.block l hll).trans HLL.out
  have B3 : Hid (Sg W2 Bb (S 0)) := B2
  clear H H0 KF G1 B2 hW2 hBb hS0 O2
  go_loopw [8] (fun _ Wk => ∃ k : Nat, k ≤ m ∧ Hid (Bt Bd l W Wk) ∧ Hid (Bk Wk Bd #[.int .i64 ((k : Int) - 1)] 3) ∧ Hid (Wk.heap[l]? = some (.loop (r0 .ready none))) ∧ Hid (Sg Wk Bb (S k))) (fun _ Wk => dpM Bd Wk)
  case atStart => exact ⟨0, by omega, i1, i2, i3, B3⟩
  case round =>
    obtain ⟨k, hk, I1, I2, I3, I4⟩ := hrel
    have J1 : Sg wr Bl SL := HHL.out.bt I1.out h3 h2
    have hRR := fun st pe => HRR.out st pe
    have I3' := I3.out
    rw [← HRR.out] at I3'
    have CO : Hid (k < m → C k < 0) := HCC.out k
    have CX : Hid (k = m → m < 21 → 0 ≤ C k) := fun e h => by rw [e]; exact HCM.out h
    have HR := fun (n : Nat) => dp_round fn D l n Bd Bl (S k) SL ((k : Int) - 1) (C k) wr I2.out (HSQ.out k) J1 (by omega) h1 h2 h3 (fun h => HKC.out k hk (by omega)) y0 y1 y2 y3 y4 y5 y8 y9 y10 y11 y12 y13 y14 y15 y16 y17 y18 y19 y21 y22 y23 y24 y25 y26 y27 y28 y29 y30 y31 y32 y20 I3'
    simp only [hRR] at HR
    have hy : (Instr.yield l #[.agg (S k)]).run Tryz.prog wr = .ok (.round l fn #[y0, y1, y2, y3, y4, y5, .pointer (some ⟨Bd, 0, none⟩), .pointer (some ⟨Bl, 0, none⟩), y8, y9, y10, y11, y12, y13, y14, y15, y16, y17, y18, y19, .agg (S k), y21, y22, y23, y24, y25, y26, y27, y28, y29, y30, y31, y32] (dpA Tryz.f5.body) (dpB Tryz.f5.body)) wr := by simpa [dpL] using run_yield (P := Tryz.prog) (args := #[.agg (S k)]) I3' rfl
    clear hRR I3' HRR
    generalize hQQ : Exit.then _ (Exit.inBlock 0 _) = QQ
    refine (wpIn_wide (n := 1)).1 (wpIn_seq (wpIn_seq (wpIn_region_lit ?_)))
    refine op_wide rfl (by intro c h; cases h) ?_
    go_simp
    refine op_wide rfl (by intro c h; cases h) ?_
    refine wp_load_row 53 (.tmp 3) rfl Bb (by exact rfl) 53 (S k) (0, 0) _ I4.out.blk Tryz.underlying53 rfl (by rw [I4.out.sq.1]; exact infoSz) ?_
    simp only [Act.put, List.setIfInBounds_toArray, List.set_cons_succ, List.set_cons_zero]
    gi_wp2
    refine (HR _).mono ?_
    rintro e W' (⟨hx, rfl, b1, b2, b3⟩ | ⟨hx, hc, rfl, b1, b2, b3⟩)
    · have b1' : Hid (Bt Bd l wr W') := b1
      have b2' : Hid (Bk W' Bd #[.int .i64 ((k : Int) - 1)] 3) := b2
      have b3' : Hid (W'.heap[l]? = some (.loop (r0 .done (some (.exit 0))))) := b3
      have hkm : k = m := by
        rcases Nat.lt_or_ge k m with h | h
        · exfalso
          have := CO.out h
          rcases hx with hx | hx <;> omega
        · omega
      clear hx b1 b2 b3 hy HR CO CX
      gi_wp2
      rw [← hQQ]
      simp only [Exit.then, Exit.inBlock, ↓reduceIte]
      go_end0
      refine ⟨⟨_, rfl⟩, I1.out.trans b1'.out, ?_, b3'.out⟩
      rw [← hkm]
      exact b2'.out
    · have b1' : Hid (Bt Bd l wr W') := b1
      have b2' : Hid (Bk W' Bd #[.int .i64 ((k : Int) - 1 + 1)] 3) := b2
      have b3' : Hid (W'.heap[l]? = some (.loop (r0 .ready none))) := b3
      have hkm : k < m := by
        apply Classical.byContradiction
        intro h
        have := CX.out (by omega)
        omega
      clear hx hc b1 b2 b3 hy HR CO CX
      have hM : dpM Bd wr = (21 - ((k : Int) - 1)).toNat := by
        unfold dpM
        rw [I2.out.c (i := 0) rfl]
        rfl
      have hO : Old w W' := Bt.old (Old.refl w) ((Bt.of HO.out).trans (I1.out.trans b1'.out)) hwd hwl
      have hr' : Bk W' Br #[.int .i64 N, .int .i64 T, .int .i64 E, .slice a3 l3 c3, .slice a4 l4 c4, .bool false, .slice a6 l6 c6] 48 := HHR.out.bt (I1.out.trans b1'.out) h5 h4
      have hs' : Sg W' Bb (S k) := I4.out.bt b1'.out n1 n2
      have HPk := HKP.out k hkm
      have HWk := HKW.out k hkm
      have hbl : Bl < W'.heap.size := Nat.lt_of_lt_of_le hBl (I1.out.trans b1'.out).size
      gi_wp2
      refine wpIn_wide.2 ?_
      refine reg_Db W' N T E a3 l3 c3 a4 l4 c4 a6 l6 c6 Br Bb (S k) (SP k) (S (k + 1)) hr' hs'.blk hs'.sq.1 (HSQ.out (k + 1)) (fun X q => HPk X (Old.trans hO q)) (fun X q => HWk X (Old.trans hO q)) _ _ rfl rfl rfl ?_
      intro us X q
      have hX : Old W' (X.setRow Bb (S (k + 1))) → True := fun _ => trivial
      simp only [putAll, Act.put, slotDb, List.range, List.range.loop, List.map_cons, List.map_nil, List.getD_cons_zero, List.getD_cons_succ, List.setIfInBounds_toArray, List.set_cons_succ, List.set_cons_zero, Exit.inBlock]
      rw [← hQQ]
      simp only [Exit.then]
      have c1 : Bt Bd l W (X.setRow Bb (S (k + 1))) := ((I1.out.trans b1'.out).trans (Bt.of q)).row hz _
      have c2 : Bk (X.setRow Bb (S (k + 1))) Bd #[.int .i64 (((k + 1 : Nat) : Int) - 1)] 3 := by
        have := b2'.out.old q
        rw [show ((k : Int) - 1 + 1) = ((k + 1 : Nat) : Int) - 1 by omega] at this
        exact this.otherRow (Ne.symm n1) _
      have c3 : (X.setRow Bb (S (k + 1))).heap[l]? = some (.loop (r0 .ready none)) := (setRow_other X Bb l _ (Ne.symm n2)).trans ((q.block l (Array.getElem?_eq_some_iff.1 b3'.out).1).trans b3'.out)
      have c4 : Sg (X.setRow Bb (S (k + 1))) Bb (S (k + 1)) := (hs'.old q).row _ (HSQ.out (k + 1))
      refine ⟨⟨_, _, _, _, _, _, _, _, _, ⟨k + 1, by omega, c1, c2, c3, c4⟩, rfl⟩, ?_⟩
      rw [hM]
      unfold dpM
      rw [c2.c (i := 0) rfl]
      simp
      omega
end Go.Proofs.YtihjndakgncdaaaGreatDoor
/- Proved: the program's DepthOf, by what it calls. -/
namespace Go.Proofs.YtihjndakgncdaaaGreatDoor
open Go.ChangeShapes Go.WideShapes Go.ChangeAt Go.RowKit
open M2
set_option linter.unusedVariables false
set_option linter.unusedSimpArgs false
theorem toZ_bkD (ps : List Nat) : (toZ ps).map Int.toNat = ps := by
  induction ps with
  | nil => rfl
  | cons x xs ih => simp [toZ] at ih ⊢; exact ih
set_option maxRecDepth 100000 in
set_option maxHeartbeats 4000000 in
theorem impl_deeper (R : Array Value) (x0 x1 x2 x3 x4 x5 x6 : Value) (hR : R = #[x0, x1, x2, x3, x4, x5, x6]) (w : World) : Calls Tryz.prog 19 #[.agg R] w fun e w' => ∃ b, e = .returned (.func (.func 43) #[] #[.pointer (some ⟨b, 0, none⟩)]) ∧ Old w w' ∧ Bk w' b R 48 ∧ b = w.heap.size := by
  subst hR
  go_enter Tryz.func19, Tryz.ntmps19
  go_wp2_with fail
  go_ret
  exact ⟨_, rfl, (Old.refl w).alloc _, Bk.new' w _ _ rfl, rfl⟩
set_option maxRecDepth 100000 in
set_option maxHeartbeats 4000000 in
theorem impl_DepthOf (N T E : Int) (ps : List Int) (v : Value) (w : World) (hP : PrsW w) (hT : TabW w) (hv : Row w v ps) (hf : Fit v) (hlp : ps.length ≤ 9223372036854775807)
    (m : Nat) (SL : Array Value) (S SP : Nat → Array Value) (C : Nat → Int) (hSL : Sq SL) (hS : ∀ k, Sq (S k)) (hm : prB N T E ps = true → m ≤ 21) (hC : prB N T E ps = true → ∀ k, k < m → C k < 0) (hCm : prB N T E ps = true → m < 21 → 0 ≤ C m)
    (KC : prB N T E ps = true → ∀ k, k ≤ m → k ≠ 21 → ∀ W', Calls Tryz.prog 20 #[.agg (S k), .agg SL] W' fun e w' => e = .returned (.int .i64 (C k)) ∧ Old W' w')
    (KL : prB N T E ps = true → ∀ W g a l c, Old w W → Row W (.slice a l c) (toI (dig (prodN (ps.map Int.toNat)))) → Calls Tryz.prog 18 #[.agg #[.int .i64 N, .int .i64 T, .int .i64 E, v, .slice (some ⟨g, 0, none⟩) ps.length ps.length, .bool false, .slice a l c]] W fun e w' => e = .returned (.agg SL) ∧ Old W w')
    (KF : prB N T E ps = true → ∀ W g a l c, Old w W → Row W (.slice a l c) (toI (dig (prodN (ps.map Int.toNat)))) → Calls Tryz.prog 28 #[.agg #[.int .i64 N, .int .i64 T, .int .i64 E, v, .slice (some ⟨g, 0, none⟩) ps.length ps.length, .bool false, .slice a l c]] W fun e w' => e = .returned (.agg (S 0)) ∧ Old W w')
    (KP : prB N T E ps = true → ∀ W g a l c, Old w W → Row W (.slice a l c) (toI (dig (prodN (ps.map Int.toNat)))) → ∀ k, k < m → Calls Tryz.prog 31 #[.agg #[.int .i64 N, .int .i64 T, .int .i64 E, v, .slice (some ⟨g, 0, none⟩) ps.length ps.length, .bool false, .slice a l c], .agg (S k), .agg (S k)] W fun e w' => e = .returned (.agg (SP k)) ∧ Old W w')
    (KW : prB N T E ps = true → ∀ W g a l c, Old w W → Row W (.slice a l c) (toI (dig (prodN (ps.map Int.toNat)))) → ∀ k, k < m → Calls Tryz.prog 33 #[.agg #[.int .i64 N, .int .i64 T, .int .i64 E, v, .slice (some ⟨g, 0, none⟩) ps.length ps.length, .bool false, .slice a l c], .agg (SP k)] W fun e w' => e = .returned (.agg (S (k + 1))) ∧ Old W w')
    (R : Int) (ok : Bool) (hy : prB N T E ps = true → R = (if m = 0 then 0 else (m : Int) - 1) ∧ ok = true) (hn : prB N T E ps = false → R = 0 ∧ ok = false) :
    Calls Tryz.prog 5 #[.agg #[.int .i64 N, .int .i64 T, .int .i64 E, v]] w fun e w' => e = .returned (.tuple #[.int .i64 R, .bool ok]) ∧ Old w w' := by
  have HY : Hid (prB N T E ps = true → R = (if m = 0 then 0 else (m : Int) - 1) ∧ ok = true) := hy
  have HNN : Hid (prB N T E ps = false → R = 0 ∧ ok = false) := hn
  have HM := hidP hm
  have HCC := hidP hC
  have HCM := hidP hCm
  have HKC := hidP KC
  obtain ⟨Rf, hRf⟩ := Rings_roots N ps
  have K1 := fun W (g : Old w W) => impl_reckonerOf N T E ps Rf v W (hP.old g) (hT.old g) (hv.old g) hf hlp hRf
  obtain ⟨a0, c0, ev⟩ := hv.slice
  subst ev
  have HA : Hid (Old w (w.alloc (.cells #[.int .i64 N, .int .i64 T, .int .i64 E, .slice a0 ps.length c0] 25))) := (Old.refl w).alloc _
  have HKL : Hid (prB N T E ps = true → ∀ W g a l c, Old w W → Row W (.slice a l c) (toI (dig (prodN (ps.map Int.toNat)))) → Calls Tryz.prog 18 #[.agg #[.int .i64 N, .int .i64 T, .int .i64 E, .slice a0 ps.length c0, .slice (some ⟨g, 0, none⟩) ps.length ps.length, .bool false, .slice a l c]] W fun e w' => e = .returned (.agg SL) ∧ Old W w') := KL
  have HKF : Hid (prB N T E ps = true → ∀ W g a l c, Old w W → Row W (.slice a l c) (toI (dig (prodN (ps.map Int.toNat)))) → Calls Tryz.prog 28 #[.agg #[.int .i64 N, .int .i64 T, .int .i64 E, .slice a0 ps.length c0, .slice (some ⟨g, 0, none⟩) ps.length ps.length, .bool false, .slice a l c]] W fun e w' => e = .returned (.agg (S 0)) ∧ Old W w') := KF
  have HKP : Hid (prB N T E ps = true → ∀ W g a l c, Old w W → Row W (.slice a l c) (toI (dig (prodN (ps.map Int.toNat)))) → ∀ k, k < m → Calls Tryz.prog 31 #[.agg #[.int .i64 N, .int .i64 T, .int .i64 E, .slice a0 ps.length c0, .slice (some ⟨g, 0, none⟩) ps.length ps.length, .bool false, .slice a l c], .agg (S k), .agg (S k)] W fun e w' => e = .returned (.agg (SP k)) ∧ Old W w') := KP
  have HKW : Hid (prB N T E ps = true → ∀ W g a l c, Old w W → Row W (.slice a l c) (toI (dig (prodN (ps.map Int.toNat)))) → ∀ k, k < m → Calls Tryz.prog 33 #[.agg #[.int .i64 N, .int .i64 T, .int .i64 E, .slice a0 ps.length c0, .slice (some ⟨g, 0, none⟩) ps.length ps.length, .bool false, .slice a l c], .agg (SP k)] W fun e w' => e = .returned (.agg (S (k + 1))) ∧ Old W w') := KW
  clear hv hf hP hT hRf KC KL KF KP KW hy hn hm hC hCm
  refine (callsIn_wide (n := 3)).1 (callsIn_of_wp_marks Tryz.func5 rfl trivial (wpIn_wide.2 ?_))
  simp only [Tryz.ntmps5, List.size_toArray, List.length_cons, List.length_nil, Nat.reduceAdd, Nat.reduceSub, Array.replicate_succ, Array.replicate_zero, List.push_toArray, List.append_toArray, List.nil_append, List.cons_append]
  generalize hQQ : bodyPostM Fence.wide 3 Tryz.prog Tryz.f5 _ = QQ
  go_wp2_with fail
  refine (K1 _ HA.out).mono ?_
  rintro e w1 ⟨g1, h⟩
  have HG1 : Hid (Old w w1) := Old.trans HA.out g1
  clear g1 K1 HA
  rcases h with ⟨hB, rfl⟩ | ⟨hB, g, a, l, c, hg, rfl, hrg, P, hPz, hbas, hl, ho⟩
  · have HB : Hid (R = 0 ∧ ok = false) := HNN.out hB
    have HG2 : Hid (Old w (w1.alloc (.cells rk0 48))) := HG1.out.alloc _
    clear hB HKL HKF HKP HKW HKC
    go_wp2_with fail
    rw [← hQQ]
    refine ⟨.tuple #[.int .i64 0, .bool false], by simp [results, Tryz.results5, go_sem], ?_⟩
    rw [HB.out.1, HB.out.2]
    exact ⟨rfl, HG2.out⟩
  · have hPn : ps.map Int.toNat = P := by rw [hPz]; exact toZ_bkD P
    have HQR : Hid (Row w1 (.slice a l c) (toI (dig (prodN (ps.map Int.toNat))))) := by rw [hPn]; exact Own.row ho
    have HB := hidP (HY.out hB)
    have KL : ∀ W, Old w1 W → Calls Tryz.prog 18 #[.agg #[.int .i64 N, .int .i64 T, .int .i64 E, .slice a0 ps.length c0, .slice (some ⟨g, 0, none⟩) ps.length ps.length, .bool false, .slice a l c]] W fun e w' => e = .returned (.agg SL) ∧ Old W w' := fun W q => HKL.out hB W g a l c (Old.trans HG1.out q) (HQR.out.old q)
    have KF : Hid (∀ W, Old w1 W → Calls Tryz.prog 28 #[.agg #[.int .i64 N, .int .i64 T, .int .i64 E, .slice a0 ps.length c0, .slice (some ⟨g, 0, none⟩) ps.length ps.length, .bool false, .slice a l c]] W fun e w' => e = .returned (.agg (S 0)) ∧ Old W w') := fun W q => HKF.out hB W g a l c (Old.trans HG1.out q) (HQR.out.old q)
    have KP : Hid (∀ k, k < m → ∀ W, Old w1 W → Calls Tryz.prog 31 #[.agg #[.int .i64 N, .int .i64 T, .int .i64 E, .slice a0 ps.length c0, .slice (some ⟨g, 0, none⟩) ps.length ps.length, .bool false, .slice a l c], .agg (S k), .agg (S k)] W fun e w' => e = .returned (.agg (SP k)) ∧ Old W w') := fun k hk W q => HKP.out hB W g a l c (Old.trans HG1.out q) (HQR.out.old q) k hk
    have KW : Hid (∀ k, k < m → ∀ W, Old w1 W → Calls Tryz.prog 33 #[.agg #[.int .i64 N, .int .i64 T, .int .i64 E, .slice a0 ps.length c0, .slice (some ⟨g, 0, none⟩) ps.length ps.length, .bool false, .slice a l c], .agg (SP k)] W fun e w' => e = .returned (.agg (S (k + 1))) ∧ Old W w') := fun k hk W q => HKW.out hB W g a l c (Old.trans HG1.out q) (HQR.out.old q) k hk
    have M1 := hidP (HM.out hB)
    have M2 := hidP (HCC.out hB)
    have M3 := hidP (HCM.out hB)
    have M4 := hidP (HKC.out hB)
    have HG2 : Hid (Old w (w1.alloc (.cells #[.int .i64 N, .int .i64 T, .int .i64 E, .slice a0 ps.length c0, .slice (some ⟨g, 0, none⟩) ps.length ps.length, .bool false, .slice a l c] 48))) := HG1.out.alloc _
    have HO1 : Hid (Old w1 (w1.alloc (.cells #[.int .i64 N, .int .i64 T, .int .i64 E, .slice a0 ps.length c0, .slice (some ⟨g, 0, none⟩) ps.length ps.length, .bool false, .slice a l c] 48))) := (Old.refl w1).alloc _
    have BX : Hid (Bk (w1.alloc (.cells #[.int .i64 N, .int .i64 T, .int .i64 E, .slice a0 ps.length c0, .slice (some ⟨g, 0, none⟩) ps.length ps.length, .bool false, .slice a l c] 48)) w1.heap.size #[.int .i64 N, .int .i64 T, .int .i64 E, .slice a0 ps.length c0, .slice (some ⟨g, 0, none⟩) ps.length ps.length, .bool false, .slice a l c] 48) := Bk.new' w1 _ _ rfl
    have z0 := BX.out.c (i := 0) rfl
    have z1 := BX.out.c (i := 1) rfl
    have z2 := BX.out.c (i := 2) rfl
    have z3 := BX.out.c (i := 3) rfl
    have z4 := BX.out.c (i := 4) rfl
    have z5 := BX.out.c (i := 5) rfl
    have z6 := BX.out.c (i := 6) rfl
    clear hB HKL HKF HKP HKW hPn hPz hbas ho hrg hg hl HQR HM HCC HCM HKC HY HNN
    go_wp2_with fail
    refine (KL _ HO1.out).mono ?_
    rintro e w3 ⟨rfl, g3⟩
    have HG3 : Hid (Old w w3) := Old.trans HG2.out g3
    have HO3 : Hid (Old w1 w3) := Old.trans HO1.out g3
    have B3 : Hid (Bk w3 w1.heap.size #[.int .i64 N, .int .i64 T, .int .i64 E, .slice a0 ps.length c0, .slice (some ⟨g, 0, none⟩) ps.length ps.length, .bool false, .slice a l c] 48) := BX.out.old g3
    clear z0 z1 z2 z3 z4 z5 z6
    have H : Sg ((w3.alloc (.cells #[.int .i64 (-1)] 3)).alloc (.cells Tryz.zeroCells53 53)) (w3.heap.size + 1) Tryz.zeroCells53 := Sg.zero _ _ (by simp)
    have hlt3 := B3.out.lt
    have B4 : Hid (Bk (((w3.alloc (.cells #[.int .i64 (-1)] 3)).alloc (.cells Tryz.zeroCells53 53)).setRow (w3.heap.size + 1) SL) w1.heap.size #[.int .i64 N, .int .i64 T, .int .i64 E, .slice a0 ps.length c0, .slice (some ⟨g, 0, none⟩) ps.length ps.length, .bool false, .slice a l c] 48) := ((B3.out.alloc _).alloc _).otherRow (by omega) _
    have D4 : Hid (Bk (((w3.alloc (.cells #[.int .i64 (-1)] 3)).alloc (.cells Tryz.zeroCells53 53)).setRow (w3.heap.size + 1) SL) w3.heap.size #[.int .i64 (-1)] 3) := ((Bk.new' w3 _ _ rfl).alloc _).otherRow (by omega) _
    have L4 : Hid (Sg (((w3.alloc (.cells #[.int .i64 (-1)] 3)).alloc (.cells Tryz.zeroCells53 53)).setRow (w3.heap.size + 1) SL) (w3.heap.size + 1) SL) := H.row SL hSL
    have HO4 : Hid (Old w1 (((w3.alloc (.cells #[.int .i64 (-1)] 3)).alloc (.cells Tryz.zeroCells53 53)).setRow (w3.heap.size + 1) SL)) := ((HO3.out.alloc _).alloc _).row (by omega) SL
    have HG4 : Hid (Old w (((w3.alloc (.cells #[.int .i64 (-1)] 3)).alloc (.cells Tryz.zeroCells53 53)).setRow (w3.heap.size + 1) SL)) := ((HG3.out.alloc _).alloc _).row (by have := HG3.out.size; omega) SL
    have z0 := B4.out.c (i := 0) rfl
    have z1 := B4.out.c (i := 1) rfl
    have z2 := B4.out.c (i := 2) rfl
    have z3 := B4.out.c (i := 3) rfl
    have z4 := B4.out.c (i := 4) rfl
    have z5 := B4.out.c (i := 5) rfl
    have z6 := B4.out.c (i := 6) rfl
    have hw3 : w.heap.size ≤ w3.heap.size := HG3.out.size
    have hw13 : w1.heap.size ≤ w3.heap.size := HO3.out.size
    clear g3 BX HG2 HO1 KL B3 HG3 HO3
    go_wp2_with (first | ((with_reducible refine store_sg H SL hSL ?_ ?_ ?_); exact rfl; exact rfl; simp only [Act.put, List.setIfInBounds_toArray, List.set_cons_succ, List.set_cons_zero]) | fail)
    refine (impl_deeper _ _ _ _ _ _ _ _ rfl _).mono ?_
    rintro e w5 ⟨b, rfl, g5, Br, hb⟩
    have D5 : Hid (Bk w5 w3.heap.size #[.int .i64 (-1)] 3) := D4.out.old g5
    have L5 : Hid (Sg w5 (w3.heap.size + 1) SL) := L4.out.old g5
    have HO5 : Hid (Old w1 w5) := Old.trans HO4.out g5
    have HG5 : Hid (Old w w5) := Old.trans HG4.out g5
    have B5 : Hid (Bk w5 b #[.int .i64 N, .int .i64 T, .int .i64 E, .slice a0 ps.length c0, .slice (some ⟨g, 0, none⟩) ps.length ps.length, .bool false, .slice a l c] 48) := Br
    have hb5 : w3.heap.size + 1 < b := by rw [hb]; exact L4.out.lt
    have hbl5 : b < w5.heap.size := Br.lt
    clear g5 Br hb z0 z1 z2 z3 z4 z5 z6 B4 D4 L4 HO4 HG4 H
    obtain ⟨Bd, hBd⟩ : ∃ B : Nat, w3.heap.size = B := ⟨_, rfl⟩
    rw [hBd] at D5 L5 hb5 hw3 hw13
    rw [hBd]
    clear hBd
    go_wp2_with fail
    generalize hQR : Exit.inBlock 0 _ = QR
    refine (wpIn_wide (n := 3)).1 (wpIn_rangeFunc ?_)
    intro fn _
    obtain ⟨W1, hW1⟩ : ∃ W1 : World, (w5.alloc (.deferred (some []))).alloc (.loop (dpL Tryz.f5.body fn #[.agg #[.int .i64 N, .int .i64 T, .int .i64 E, .slice a0 ps.length c0], .pointer (some ⟨w.heap.size, 0, none⟩), .int .i64 0, .bool false, .pointer (some ⟨w1.heap.size, 0, none⟩), .bool true, .pointer (some ⟨Bd, 0, none⟩), .pointer (some ⟨Bd + 1, 0, none⟩), undef, .tuple #[.agg #[.int .i64 N, .int .i64 T, .int .i64 E, .slice a0 ps.length c0, .slice (some ⟨g, 0, none⟩) ps.length ps.length, .bool false, .slice a l c], .bool true], .agg #[.int .i64 N, .int .i64 T, .int .i64 E, .slice a0 ps.length c0], .tuple #[.agg #[.int .i64 N, .int .i64 T, .int .i64 E, .slice a0 ps.length c0, .slice (some ⟨g, 0, none⟩) ps.length ps.length, .bool false, .slice a l c], .bool true], .agg #[.int .i64 N, .int .i64 T, .int .i64 E, .slice a0 ps.length c0, .slice (some ⟨g, 0, none⟩) ps.length ps.length, .bool false, .slice a l c], .bool true, .bool true, .bool false, .agg #[.int .i64 N, .int .i64 T, .int .i64 E, .slice a0 ps.length c0, .slice (some ⟨g, 0, none⟩) ps.length ps.length, .bool false, .slice a l c], .agg SL, .agg #[.int .i64 N, .int .i64 T, .int .i64 E, .slice a0 ps.length c0, .slice (some ⟨g, 0, none⟩) ps.length ps.length, .bool false, .slice a l c], .func (.func 43) #[] #[.pointer (some ⟨b, 0, none⟩)], undef, undef, undef, undef, undef, undef, undef, undef, undef, undef, undef, undef, undef] w5.heap.size .ready none)) = W1 := ⟨_, rfl⟩
    have hl1 : W1.heap[w5.heap.size + 1]? = some (.loop (dpL Tryz.f5.body fn #[.agg #[.int .i64 N, .int .i64 T, .int .i64 E, .slice a0 ps.length c0], .pointer (some ⟨w.heap.size, 0, none⟩), .int .i64 0, .bool false, .pointer (some ⟨w1.heap.size, 0, none⟩), .bool true, .pointer (some ⟨Bd, 0, none⟩), .pointer (some ⟨Bd + 1, 0, none⟩), undef, .tuple #[.agg #[.int .i64 N, .int .i64 T, .int .i64 E, .slice a0 ps.length c0, .slice (some ⟨g, 0, none⟩) ps.length ps.length, .bool false, .slice a l c], .bool true], .agg #[.int .i64 N, .int .i64 T, .int .i64 E, .slice a0 ps.length c0], .tuple #[.agg #[.int .i64 N, .int .i64 T, .int .i64 E, .slice a0 ps.length c0, .slice (some ⟨g, 0, none⟩) ps.length ps.length, .bool false, .slice a l c], .bool true], .agg #[.int .i64 N, .int .i64 T, .int .i64 E, .slice a0 ps.length c0, .slice (some ⟨g, 0, none⟩) ps.length ps.length, .bool false, .slice a l c], .bool true, .bool true, .bool false, .agg #[.int .i64 N, .int .i64 T, .int .i64 E, .slice a0 ps.length c0, .slice (some ⟨g, 0, none⟩) ps.length ps.length, .bool false, .slice a l c], .agg SL, .agg #[.int .i64 N, .int .i64 T, .int .i64 E, .slice a0 ps.length c0, .slice (some ⟨g, 0, none⟩) ps.length ps.length, .bool false, .slice a l c], .func (.func 43) #[] #[.pointer (some ⟨b, 0, none⟩)], undef, undef, undef, undef, undef, undef, undef, undef, undef, undef, undef, undef, undef] w5.heap.size .ready none)) := by
      rw [← hW1]
      have := World.alloc_heap_new (w5.alloc (.deferred (some []))) (.loop (dpL Tryz.f5.body fn #[.agg #[.int .i64 N, .int .i64 T, .int .i64 E, .slice a0 ps.length c0], .pointer (some ⟨w.heap.size, 0, none⟩), .int .i64 0, .bool false, .pointer (some ⟨w1.heap.size, 0, none⟩), .bool true, .pointer (some ⟨Bd, 0, none⟩), .pointer (some ⟨Bd + 1, 0, none⟩), undef, .tuple #[.agg #[.int .i64 N, .int .i64 T, .int .i64 E, .slice a0 ps.length c0, .slice (some ⟨g, 0, none⟩) ps.length ps.length, .bool false, .slice a l c], .bool true], .agg #[.int .i64 N, .int .i64 T, .int .i64 E, .slice a0 ps.length c0], .tuple #[.agg #[.int .i64 N, .int .i64 T, .int .i64 E, .slice a0 ps.length c0, .slice (some ⟨g, 0, none⟩) ps.length ps.length, .bool false, .slice a l c], .bool true], .agg #[.int .i64 N, .int .i64 T, .int .i64 E, .slice a0 ps.length c0, .slice (some ⟨g, 0, none⟩) ps.length ps.length, .bool false, .slice a l c], .bool true, .bool true, .bool false, .agg #[.int .i64 N, .int .i64 T, .int .i64 E, .slice a0 ps.length c0, .slice (some ⟨g, 0, none⟩) ps.length ps.length, .bool false, .slice a l c], .agg SL, .agg #[.int .i64 N, .int .i64 T, .int .i64 E, .slice a0 ps.length c0, .slice (some ⟨g, 0, none⟩) ps.length ps.length, .bool false, .slice a l c], .func (.func 43) #[] #[.pointer (some ⟨b, 0, none⟩)], undef, undef, undef, undef, undef, undef, undef, undef, undef, undef, undef, undef, undef] w5.heap.size .ready none))
      rwa [World.size_alloc] at this
    have hK1 : W1.heap[w5.heap.size]? = some (.deferred (some [])) := by
      rw [← hW1]
      exact (Below.heap_alloc _ _ _ (by simp)).trans (World.alloc_heap_new w5 _)
    have O51 : Old w5 W1 := hW1 ▸ ((Old.refl w5).alloc _).alloc _
    refine ⟨w5.heap.size + 1, [{ target := .collected w5.heap.size, args := #[] }], W1, { target := .fn (.func 43) #[.pointer (some ⟨b, 0, none⟩)], args := #[.func (.yield (w5.heap.size + 1)) #[] #[]] }, W1, 43, #[.func (.yield (w5.heap.size + 1)) #[] #[], .pointer (some ⟨b, 0, none⟩)], W1, ?_, ?_, fun _ _ => trivial, ?_, fun _ => by omega, ?_⟩
    · rw [← hW1]
      exact run_enterLoop_outer _ _ _ _ _
    · simp [resolve, go_sem]
    · simp [invoke, go_sem]
    · refine callsIn_wide.2 ((dp_iter fn w5.heap.size (w5.heap.size + 1) Bd (Bd + 1) b m SL S SP C N T E a0 ps.length c0 (some ⟨g, 0, none⟩) ps.length ps.length a l c w1 W1 hS (Old.trans HO5.out O51) hw13 (by have := HO5.out.size; omega) M1.out M2.out M3.out (D5.out.old O51) (L5.out.old O51) (B5.out.old O51) (by omega) (by omega) (by omega) (by omega) (by omega) M4.out KF.out KP.out KW.out _ _ _ _ _ _ _ _ _ _ _ _ _ _ _ _ _ _ _ _ _ _ _ _ _ _ _ _ _ _ _ hl1).mono ?_)
      rintro e w6 ⟨⟨v, rfl⟩, b6, d6, l6⟩
      have hK6 : w6.heap[w5.heap.size]? = some (.deferred (some [])) := (b6.block _ (Array.getElem?_eq_some_iff.1 hK1).1 (by omega) (by omega)).trans hK1
      have hend := run_endLoop (P := Tryz.prog) l6 (by intro h; cases h)
      refine ⟨some (.exit 0), _, hend, ?_⟩
      refine wpIn_exit ?_
      rw [← hQR]
      obtain ⟨rr, hrr⟩ : ∃ rr : Obj, (.loop { dpL Tryz.f5.body fn #[.agg #[.int .i64 N, .int .i64 T, .int .i64 E, .slice a0 ps.length c0], .pointer (some ⟨w.heap.size, 0, none⟩), .int .i64 0, .bool false, .pointer (some ⟨w1.heap.size, 0, none⟩), .bool true, .pointer (some ⟨Bd, 0, none⟩), .pointer (some ⟨Bd + 1, 0, none⟩), undef, .tuple #[.agg #[.int .i64 N, .int .i64 T, .int .i64 E, .slice a0 ps.length c0, .slice (some ⟨g, 0, none⟩) ps.length ps.length, .bool false, .slice a l c], .bool true], .agg #[.int .i64 N, .int .i64 T, .int .i64 E, .slice a0 ps.length c0], .tuple #[.agg #[.int .i64 N, .int .i64 T, .int .i64 E, .slice a0 ps.length c0, .slice (some ⟨g, 0, none⟩) ps.length ps.length, .bool false, .slice a l c], .bool true], .agg #[.int .i64 N, .int .i64 T, .int .i64 E, .slice a0 ps.length c0, .slice (some ⟨g, 0, none⟩) ps.length ps.length, .bool false, .slice a l c], .bool true, .bool true, .bool false, .agg #[.int .i64 N, .int .i64 T, .int .i64 E, .slice a0 ps.length c0, .slice (some ⟨g, 0, none⟩) ps.length ps.length, .bool false, .slice a l c], .agg SL, .agg #[.int .i64 N, .int .i64 T, .int .i64 E, .slice a0 ps.length c0, .slice (some ⟨g, 0, none⟩) ps.length ps.length, .bool false, .slice a l c], .func (.func 43) #[] #[.pointer (some ⟨b, 0, none⟩)], undef, undef, undef, undef, undef, undef, undef, undef, undef, undef, undef, undef, undef] w5.heap.size .done (some (.exit 0)) with state := .exhausted }) = rr := ⟨_, rfl⟩
      rw [hrr]
      have b7 : Bt Bd (w5.heap.size + 1) W1 (w6.putObj (w5.heap.size + 1) rr) := b6.put rr
      have HO7 : Hid (Old w (w6.putObj (w5.heap.size + 1) rr)) := Bt.old (Old.trans HG5.out O51) b7 hw3 (by have := HG5.out.size; omega)
      have D7 : Hid (Bk (w6.putObj (w5.heap.size + 1) rr) Bd #[.int .i64 ((m : Int) - 1)] 3) := (World.putObj_heap_other (by omega)).trans d6
      have K7 : Hid ((w6.putObj (w5.heap.size + 1) rr).heap[w5.heap.size]? = some (.deferred (some []))) := (World.putObj_heap_other (by omega)).trans hK6
      have hs5 : w.heap.size ≤ w5.heap.size := HG5.out.size
      obtain ⟨w7, hw7⟩ : ∃ w7 : World, w6.putObj (w5.heap.size + 1) rr = w7 := ⟨_, rfl⟩
      obtain ⟨Dd, hDd⟩ : ∃ Dd : Nat, w5.heap.size = Dd := ⟨_, rfl⟩
      rw [hw7] at HO7 D7 K7 ⊢
      rw [hDd] at K7 hs5 ⊢
      have q0 := D7.out.c (i := 0) rfl
      have hm21 := M1.out
      clear hend hrr b7 b6 d6 l6 hK6 hw7 hDd hl1 hK1 O51 hW1 hQR KF KP KW M1 M2 M3 M4 HO5 HG5 D5 L5 B5
      simp only [Exit.inBlock, ↓reduceIte]
      obtain ⟨d, hd⟩ : ∃ d : Int, (m : Int) - 1 = d := ⟨_, rfl⟩
      rw [hd] at q0
      have hR : R = max 0 d := by
        rw [HB.out.1]
        split <;> omega
      have HRM : Hid (R = max 0 d) := hR
      clear hR
      go_wp2_with fail
      rw [← hQQ]
      refine ⟨by simp, .inl ⟨_, _, rfl, run_takeDeferred K7.out, ?_⟩⟩
      refine ⟨.tuple #[.int .i64 (max 0 d), .bool true], by simp [results, Tryz.results5, go_sem], ?_⟩
      rw [HRM.out, HB.out.2]
      exact ⟨rfl, Bt.old HO7.out ((Bt.refl Dd Dd w7).put _) hs5 hs5⟩
end Go.Proofs.YtihjndakgncdaaaGreatDoor
