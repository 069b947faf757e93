/- Proved: several texts in one: what each proves is said ahead of it. -/
import Derived.Test.YtihjndakgncdaaaGreatDoorFd17
import Derived.Test.YtihjndakgncdaaaGreatDoorFd05
import Derived.Test.YtihjndakgncdaaaGreatDoorFd02
/- Proved: the walk of the statement FnDepth, under what it calls. -/
namespace Go.Proofs.YtihjndakgncdaaaGreatDoor
open Go.ChangeShapes Go.WideShapes Go.ChangeAt Go.RowKit
open M2
set_option linter.unusedVariables false
set_option linter.unusedSimpArgs false
theorem row_cellD {W : World} {v : Value} {xs : List Int} (h : Row W v xs) {k : Nat} (hb : ∀ b o n c, v = .slice (some ⟨b, o, none⟩) n c → b ≠ k) (i : Nat) (x : Value) : Row (W.setCell ⟨k, i, none⟩ x) v xs := by
  rcases h with hr | ⟨b, o, cap, e, hlt, h0, hc⟩
  · exact .inl hr
  · refine .inr ⟨b, o, cap, e, by rw [World.size_setCell]; exact hlt, h0, fun j hj => ?_⟩
    rw [← hc j hj]
    exact World.cell?_of_block (heap_setCell_other W ⟨k, i, none⟩ b _ (hb b o _ cap e))
theorem own_neD {W : World} {base : Nat} {v : Value} {xs : List Int} (h : Own W base v xs) {k : Nat} (hk : k < base) : ∀ b o n c, v = .slice (some ⟨b, o, none⟩) n c → b ≠ k := fun b o n c e => by
  have := h.lt
  rcases h.2 with ⟨h1, _⟩ | ⟨g, cap, cur, e1, hb, _⟩
  · rw [h1] at e
    cases e
  · rw [e1] at e
    injection e with e2
    injection e2 with e3
    injection e3 with e4
    omega
theorem bk_twoD {W : World} {k : Nat} {x y : Value} {t : TypeId} (h : Bk W k #[x, y] t) (x' y' : Value) : Bk ((W.setCell ⟨k, 0, none⟩ x').setCell ⟨k, 1, none⟩ y') k #[x', y'] t := (heap_setCell_same _ k 1 _ _ y' (heap_setCell_same W k 0 _ _ x' h)).trans rfl
def WhD (D : List Nat) (W : World) (e : Ending) (w' : World) : Prop := ∃ ra rc, e = .returned (.tuple #[.agg #[.bool false, .slice ra (toI D).length rc], .bool true]) ∧ Old W w' ∧ Own w' W.heap.size (.slice ra (toI D).length rc) (toI D)
structure FdK (w1 : World) (N T E : Int) (a : Option Addr) (n cp : Nat) (R : Nat) (ok : Bool) (L : List Nat) (V U : Nat → List Nat) (B : Nat → Int) : Prop where
  kd : ∀ W, Old w1 W → Calls Tryz.prog 5 #[.agg #[.int .i64 N, .int .i64 T, .int .i64 E, .slice a n cp]] W fun e w' => e = .returned (.tuple #[.int .i64 (R : Int), .bool ok]) ∧ Old W w'
  ks : ∀ W, Old w1 W → Calls Tryz.prog 6 #[.agg #[.int .i64 N, .int .i64 T, .int .i64 E, .slice a n cp]] W fun e w' => e = .returned (.tuple #[.int .i64 (R : Int), .bool ok]) ∧ Old W w'
  no : ok = false → R = 0
  kl : ok = true → ∀ W, Old w1 W → Calls Tryz.prog 7 #[.agg #[.int .i64 N, .int .i64 T, .int .i64 E, .slice a n cp]] W (WhD L W)
  kf : ok = true → ∀ W, Old w1 W → Calls Tryz.prog 8 #[.agg #[.int .i64 N, .int .i64 T, .int .i64 E, .slice a n cp]] W (WhD (V 0) W)
  kb : ok = true → ∀ k, k ≤ R → ∀ W ra rc, Old w1 W → Row W (.slice ra (toI (V k)).length rc) (toI (V k)) → Calls Tryz.prog 9 #[.agg #[.int .i64 N, .int .i64 T, .int .i64 E, .slice a n cp], .agg #[.bool false, .slice ra (toI (V k)).length rc]] W fun e w' => e = .returned (.tuple #[.int .i64 (B k), .bool true]) ∧ Old W w'
  km : ok = true → ∀ k, k < R → ∀ W ra rc, Old w1 W → Row W (.slice ra (toI (V k)).length rc) (toI (V k)) → Calls Tryz.prog 10 #[.agg #[.int .i64 N, .int .i64 T, .int .i64 E, .slice a n cp], .agg #[.bool false, .slice ra (toI (V k)).length rc], .agg #[.bool false, .slice ra (toI (V k)).length rc]] W (WhD (U k) W)
  kw : ok = true → ∀ k, k < R → ∀ W ra rc, Old w1 W → Row W (.slice ra (toI (U k)).length rc) (toI (U k)) → Calls Tryz.prog 11 #[.agg #[.int .i64 N, .int .i64 T, .int .i64 E, .slice a n cp], .agg #[.bool false, .slice ra (toI (U k)).length rc]] W (WhD (V (k + 1)) W)
  kc : ok = true → ∀ k, k < R → ∀ W ra rc la lc, Row W (.slice ra (toI (V (k + 1))).length rc) (toI (V (k + 1))) → Row W (.slice la (toI L).length lc) (toI L) → Calls Tryz.prog 12 #[.agg #[.bool false, .slice ra (toI (V (k + 1))).length rc], .agg #[.bool false, .slice la (toI L).length lc]] W fun e w' => e = .returned (.int .i64 (-1)) ∧ Old W w'
  rb : R ≤ 100
  mono : ok = true → ∀ k, k < R → B (k + 1) ≤ B k
def PmD (w : World) (e : Ending) (w' : World) : Prop := ∃ N T E a n cp R ok L V U B, e = .returned (.agg #[.int .i64 N, .int .i64 T, .int .i64 E, .slice a n cp]) ∧ Old w w' ∧ FdK w' N T E a n cp R ok L V U B
set_option maxRecDepth 100000 in
set_option maxHeartbeats 8000000 in
theorem law_Depth (w : World) (code : Value) (len : Nat) (h : BysW w code len) (hl : len ≤ 9223372036854775807) (KD : len ≤ 1048576 → Calls Tryz.prog 4 #[code] w (PmD w)) :
    Calls Tryz.prog 3 #[code] w fun e w' => e = .returned (.bool true) ∧ Old w w' := by
  obtain ⟨ca0, ccap, hcode⟩ : ∃ ca ccap, code = .slice ca len ccap := by
    rcases h with ⟨a, cap, e, e2⟩ | ⟨b, o, cap, e, _⟩
    · exact ⟨a, cap, by rw [e, e2]⟩
    · exact ⟨_, cap, e⟩
  subst hcode
  clear h
  by_cases hb : (1048576 : Int) < (len : Int)
  · have d1 : decide ((1048576 : Int) < (len : Int)) = true := decide_eq_true hb
    have d2 : decide ((len : Int) > 1048576) = true := decide_eq_true hb
    go_enter Tryz.func3, Tryz.ntmps3
    go_wp2_with fail
    go_ret
    exact ⟨rfl, Old.refl _⟩
  have d1 : decide ((1048576 : Int) < (len : Int)) = false := decide_eq_false hb
  have d2 : decide ((len : Int) > 1048576) = false := decide_eq_false hb
  have HKD := hidP (KD (by omega))
  clear hb KD
  go_enter Tryz.func3, Tryz.ntmps3
  go_wp2_with fail
  refine HKD.out.mono ?_
  rintro e w1 ⟨N, T, E, a, n, cp, R, ok, L, V, U, B, rfl, g1, hK⟩
  have HK := hidP hK
  have HG1 : Hid (Old w (w1.alloc (.cells #[.int .i64 N, .int .i64 T, .int .i64 E, .slice a n cp] 25))) := g1.alloc _
  have P1 : Hid (Bk (w1.alloc (.cells #[.int .i64 N, .int .i64 T, .int .i64 E, .slice a n cp] 25)) w1.heap.size #[.int .i64 N, .int .i64 T, .int .i64 E, .slice a n cp] 25) := Bk.new' w1 _ _ rfl
  have V1 : Hid (Old w1 (w1.alloc (.cells #[.int .i64 N, .int .i64 T, .int .i64 E, .slice a n cp] 25))) := (Old.refl w1).alloc _
  have hw1 := g1.size
  clear g1 hK HKD d1 d2
  have p0 := P1.out.c (i := 0) rfl
  have p1 := P1.out.c (i := 1) rfl
  have p2 := P1.out.c (i := 2) rfl
  have p3 := P1.out.c (i := 3) rfl
  have K2 := HK.out.kd _ V1.out
  go_wp2_with fail
  refine K2.mono ?_
  rintro e w2 ⟨rfl, g2⟩
  have G2 := hidP (Old.trans HG1.out g2)
  have V2 := hidP (Old.trans V1.out g2)
  have P2 := hidP (P1.out.old g2)
  clear g2 K2 p0 p1 p2 p3 P1 V1 HG1
  have p0 := P2.out.c (i := 0) rfl
  have p1 := P2.out.c (i := 1) rfl
  have p2 := P2.out.c (i := 2) rfl
  have p3 := P2.out.c (i := 3) rfl
  have K3 := HK.out.ks _ V2.out
  go_wp2_with fail
  refine K3.mono ?_
  rintro e w3 ⟨rfl, g3⟩
  have G3 := hidP (Old.trans G2.out g3)
  have V3 := hidP (Old.trans V2.out g3)
  have P3 := hidP (P2.out.old g3)
  clear g3 K3 p0 p1 p2 p3 P2 V2 G2
  have e0 : (ok != ok) = false := by simp
  have e1 : ((R : Int) != (R : Int)) = false := by simp
  cases hok : ok
  · subst hok
    have hR0 := HK.out.no rfl
    subst hR0
    go_wp2_with fail
    go_ret
    exact ⟨rfl, G3.out⟩
  subst hok
  have p0 := P3.out.c (i := 0) rfl
  have p1 := P3.out.c (i := 1) rfl
  have p2 := P3.out.c (i := 2) rfl
  have p3 := P3.out.c (i := 3) rfl
  have K4 := HK.out.kl rfl _ V3.out
  go_wp2_with fail
  refine K4.mono ?_
  rintro e w4 ⟨la, lc, rfl, g4, o4⟩
  have L4 := hidP (Own.row o4)
  have X4 : Hid (Bk (w4.alloc (.cells #[.bool false, .slice la (toI L).length lc] 30)) w4.heap.size #[.bool false, .slice la (toI L).length lc] 30) := Bk.new' w4 _ _ rfl
  have G4 : Hid (Old w (w4.alloc (.cells #[.bool false, .slice la (toI L).length lc] 30))) := (Old.trans G3.out g4).alloc _
  have V4 : Hid (Old w1 (w4.alloc (.cells #[.bool false, .slice la (toI L).length lc] 30))) := (Old.trans V3.out g4).alloc _
  have P4 : Hid (Bk (w4.alloc (.cells #[.bool false, .slice la (toI L).length lc] 30)) w1.heap.size #[.int .i64 N, .int .i64 T, .int .i64 E, .slice a n cp] 25) := (P3.out.old g4).alloc _
  have Q4 : Hid (Old w4 (w4.alloc (.cells #[.bool false, .slice la (toI L).length lc] 30))) := (Old.refl w4).alloc _
  have hp4 : w1.heap.size < w4.heap.size := Nat.lt_of_lt_of_le P3.out.lt g4.size
  clear g4 o4 K4 p0 p1 p2 p3 P3 V3 G3 e0 e1
  have p0 := P4.out.c (i := 0) rfl
  have p1 := P4.out.c (i := 1) rfl
  have p2 := P4.out.c (i := 2) rfl
  have p3 := P4.out.c (i := 3) rfl
  have K5 := HK.out.kf rfl _ V4.out
  go_wp2_with fail
  refine K5.mono ?_
  rintro e w5 ⟨va, vc, rfl, g5, o5⟩
  obtain ⟨W6, hW6⟩ : ∃ B : World, w5.alloc (.cells #[.bool false, .slice va (toI (V 0)).length vc] 30) = B := ⟨_, rfl⟩
  have hg6 : Old w5 W6 := hW6 ▸ (Old.refl w5).alloc _
  have X6 : Hid (Bk W6 w4.heap.size #[.bool false, .slice la (toI L).length lc] 30) := (X4.out.old g5).old hg6
  have G6 : Hid (Old w W6) := Old.trans (Old.trans G4.out g5) hg6
  have V6 : Hid (Old w1 W6) := Old.trans (Old.trans V4.out g5) hg6
  have Q6 : Hid (Old w4 W6) := Old.trans (Old.trans Q4.out g5) hg6
  have P6 : Hid (Bk W6 w1.heap.size #[.int .i64 N, .int .i64 T, .int .i64 E, .slice a n cp] 25) := (P4.out.old g5).old hg6
  have Y6 : Hid (Bk W6 w5.heap.size #[.bool false, .slice va (toI (V 0)).length vc] 30) := hW6 ▸ Bk.new' w5 _ _ rfl
  have RV6 : Hid (Row W6 (.slice va (toI (V 0)).length vc) (toI (V 0))) := (Own.row o5).old hg6
  have NV6 : Hid (∀ b o n c, Value.slice va (toI (V 0)).length vc = .slice (some ⟨b, o, none⟩) n c → b ≠ w5.heap.size) := fun b o n c e => by
    have := (o5.lt b (by rw [e]; rfl)).1
    have := (o5.lt b (by rw [e]; rfl)).2
    omega
  have hp5 : w4.heap.size < w5.heap.size := Nat.lt_of_lt_of_le X4.out.lt g5.size
  obtain ⟨Bv, hBv⟩ : ∃ B : Nat, w5.heap.size = B := ⟨_, rfl⟩
  obtain ⟨Bl, hBl⟩ : ∃ B : Nat, w4.heap.size = B := ⟨_, rfl⟩
  have hq4 : Hid (w4.heap.size ≤ Bv) := by show w4.heap.size ≤ Bv; omega
  rw [hBv] at Y6 NV6 hp5
  rw [hBl] at X6 hp5 hp4
  clear g5 o5 K5 p0 p1 p2 p3 P4 V4 G4 X4 Q4 hg6
  go_wp2_with fail
  clear hW6 hBv hBl
  go_loopw [12] (fun kv Wk => ∃ (k : Nat) (ra : Option Addr) (rc : Nat), k ≤ R ∧ kv = .int .i64 (k : Int) ∧ Hid (Old w Wk) ∧ Hid (Old w1 Wk) ∧ Hid (Old w4 Wk) ∧ Hid (Bk Wk w1.heap.size #[.int .i64 N, .int .i64 T, .int .i64 E, .slice a n cp] 25) ∧ Hid (Bk Wk Bl #[.bool false, .slice la (toI L).length lc] 30) ∧ Hid (Bk Wk Bv #[.bool false, .slice ra (toI (V k)).length rc] 30) ∧ Hid (Row Wk (.slice ra (toI (V k)).length rc) (toI (V k))) ∧ Hid (∀ b o n c, Value.slice ra (toI (V k)).length rc = .slice (some ⟨b, o, none⟩) n c → b ≠ Bv)) (fun kv _ => R - (intOf kv).toNat)
  case atStart => exact ⟨0, va, vc, by omega, rfl, G6, V6, Q6, P6, X6, Y6, RV6, NV6⟩
  case round =>
    obtain ⟨k, ra, rc, hk, rfl, IG, IV, IQ, IP, IX, IY, IR, IN⟩ := hrel
    clear G6 V6 Q6 P6 X6 Y6 RV6 NV6
    by_cases hlt : k < R
    · have d1 : decide ((k : Int) < (R : Int)) = true := decide_eq_true (by omega)
      have d2 : decide (k < R) = true := decide_eq_true hlt
      have hk1 : k + 1 ≤ R := hlt
      have hR := HK.out.rb
      have HEW : Hid (wrap64 ((k : Int) + 1) = ((k + 1 : Nat) : Int)) := by show wrap64 ((k : Int) + 1) = ((k + 1 : Nat) : Int); unfold wrap64; omega
      have HMS : Hid (R - (intOf (.int .i64 ((k + 1 : Nat) : Int))).toNat < R - (intOf (.int .i64 (k : Int))).toNat) := by show R - (k + 1) < R - k; omega
      have n1 : w1.heap.size ≠ Bv := by omega
      have n2 : Bl ≠ Bv := by omega
      have G0 := IG
      have V0 := IV
      have Q0 := IQ
      have P0 := IP
      have X0 := IX
      have Y0 := IY
      have R0 := IR
      clear IG IV IQ IP IX IY IR
      have hBv := Y0.out.lt
      have p0 := P0.out.c (i := 0) rfl
      have p1 := P0.out.c (i := 1) rfl
      have p2 := P0.out.c (i := 2) rfl
      have p3 := P0.out.c (i := 3) rfl
      have y0 := Y0.out.c (i := 0) rfl
      have y1 := Y0.out.c (i := 1) rfl
      have K1 := HK.out.kb rfl k hk wr ra rc V0.out R0.out
      go_wp2_with fail
      refine K1.mono ?_
      rintro e x1 ⟨rfl, g1⟩
      have G1 : Hid (Old w x1) := Old.trans G0.out g1
      have V1 : Hid (Old w1 x1) := Old.trans V0.out g1
      have Q1 : Hid (Old w4 x1) := Old.trans Q0.out g1
      have P1 : Hid (Bk x1 w1.heap.size #[.int .i64 N, .int .i64 T, .int .i64 E, .slice a n cp] 25) := P0.out.old g1
      have X1 : Hid (Bk x1 Bl #[.bool false, .slice la (toI L).length lc] 30) := X0.out.old g1
      have Y1 : Hid (Bk x1 Bv #[.bool false, .slice ra (toI (V k)).length rc] 30) := Y0.out.old g1
      have R1 := hidP (R0.out.old g1)
      have hB1 : Bv < x1.heap.size := Nat.lt_of_lt_of_le hBv g1.size
      clear g1 K1 G0 V0 Q0 P0 X0 Y0 R0 p0 p1 p2 p3 y0 y1
      have p0 := P1.out.c (i := 0) rfl
      have p1 := P1.out.c (i := 1) rfl
      have p2 := P1.out.c (i := 2) rfl
      have p3 := P1.out.c (i := 3) rfl
      have y0 := Y1.out.c (i := 0) rfl
      have y1 := Y1.out.c (i := 1) rfl
      have K2 := HK.out.km rfl k hlt x1 ra rc V1.out R1.out
      go_wp2_with fail
      refine K2.mono ?_
      rintro e x2 ⟨ma, mc, rfl, g2, o2⟩
      have G2 : Hid (Old w x2) := Old.trans G1.out g2
      have V2 : Hid (Old w1 x2) := Old.trans V1.out g2
      have Q2 : Hid (Old w4 x2) := Old.trans Q1.out g2
      have P2 : Hid (Bk x2 w1.heap.size #[.int .i64 N, .int .i64 T, .int .i64 E, .slice a n cp] 25) := P1.out.old g2
      have X2 : Hid (Bk x2 Bl #[.bool false, .slice la (toI L).length lc] 30) := X1.out.old g2
      have Y2 : Hid (Bk x2 Bv #[.bool false, .slice ra (toI (V k)).length rc] 30) := Y1.out.old g2
      have hB2 : Bv < x2.heap.size := Nat.lt_of_lt_of_le hB1 g2.size
      have RM : Hid (Row (x2.alloc (.cells #[.bool false, .slice ma (toI (U k)).length mc] 30)) (.slice ma (toI (U k)).length mc) (toI (U k))) := (Own.row o2).old ((Old.refl x2).alloc _)
      have M3 : Hid (Bk (x2.alloc (.cells #[.bool false, .slice ma (toI (U k)).length mc] 30)) x2.heap.size #[.bool false, .slice ma (toI (U k)).length mc] 30) := Bk.new' x2 _ _ rfl
      have G3 : Hid (Old w (x2.alloc (.cells #[.bool false, .slice ma (toI (U k)).length mc] 30))) := G2.out.alloc _
      have V3 : Hid (Old w1 (x2.alloc (.cells #[.bool false, .slice ma (toI (U k)).length mc] 30))) := V2.out.alloc _
      have Q3 : Hid (Old w4 (x2.alloc (.cells #[.bool false, .slice ma (toI (U k)).length mc] 30))) := Q2.out.alloc _
      have P3 : Hid (Bk (x2.alloc (.cells #[.bool false, .slice ma (toI (U k)).length mc] 30)) w1.heap.size #[.int .i64 N, .int .i64 T, .int .i64 E, .slice a n cp] 25) := P2.out.alloc _
      have X3 : Hid (Bk (x2.alloc (.cells #[.bool false, .slice ma (toI (U k)).length mc] 30)) Bl #[.bool false, .slice la (toI L).length lc] 30) := X2.out.alloc _
      have Y3 : Hid (Bk (x2.alloc (.cells #[.bool false, .slice ma (toI (U k)).length mc] 30)) Bv #[.bool false, .slice ra (toI (V k)).length rc] 30) := Y2.out.alloc _
      clear g2 o2 K2 G1 V1 Q1 P1 X1 Y1 G2 V2 Q2 P2 X2 Y2 R1 p0 p1 p2 p3 y0 y1 IN
      have p0 := P3.out.c (i := 0) rfl
      have p1 := P3.out.c (i := 1) rfl
      have p2 := P3.out.c (i := 2) rfl
      have p3 := P3.out.c (i := 3) rfl
      have y0 := M3.out.c (i := 0) rfl
      have y1 := M3.out.c (i := 1) rfl
      have K3 := HK.out.kw rfl k hlt (x2.alloc (.cells #[.bool false, .slice ma (toI (U k)).length mc] 30)) ma mc V3.out RM.out
      go_wp2_with fail
      refine K3.mono ?_
      rintro e x3 ⟨sa, sc, rfl, g3, o3⟩
      have G4 : Hid (Old w x3) := Old.trans G3.out g3
      have V4 : Hid (Old w1 x3) := Old.trans V3.out g3
      have Q4 : Hid (Old w4 x3) := Old.trans Q3.out g3
      have P4 : Hid (Bk x3 w1.heap.size #[.int .i64 N, .int .i64 T, .int .i64 E, .slice a n cp] 25) := P3.out.old g3
      have X4 : Hid (Bk x3 Bl #[.bool false, .slice la (toI L).length lc] 30) := X3.out.old g3
      have Y4 : Hid (Bk x3 Bv #[.bool false, .slice ra (toI (V k)).length rc] 30) := Y3.out.old g3
      have hB3 : Bv < x3.heap.size := Nat.lt_of_lt_of_le (Nat.lt_of_lt_of_le hB2 (by simp)) g3.size
      have RS : Hid (Row (x3.alloc (.cells #[.bool false, .slice sa (toI (V (k + 1))).length sc] 30)) (.slice sa (toI (V (k + 1))).length sc) (toI (V (k + 1)))) := (Own.row o3).old ((Old.refl x3).alloc _)
      have NS : Hid (∀ b o n c, Value.slice sa (toI (V (k + 1))).length sc = .slice (some ⟨b, o, none⟩) n c → b ≠ Bv) := own_neD o3 (by simp; omega)
      have S5 : Hid (Bk (x3.alloc (.cells #[.bool false, .slice sa (toI (V (k + 1))).length sc] 30)) x3.heap.size #[.bool false, .slice sa (toI (V (k + 1))).length sc] 30) := Bk.new' x3 _ _ rfl
      have G5 : Hid (Old w (x3.alloc (.cells #[.bool false, .slice sa (toI (V (k + 1))).length sc] 30))) := G4.out.alloc _
      have V5 : Hid (Old w1 (x3.alloc (.cells #[.bool false, .slice sa (toI (V (k + 1))).length sc] 30))) := V4.out.alloc _
      have Q5 : Hid (Old w4 (x3.alloc (.cells #[.bool false, .slice sa (toI (V (k + 1))).length sc] 30))) := Q4.out.alloc _
      have P5 : Hid (Bk (x3.alloc (.cells #[.bool false, .slice sa (toI (V (k + 1))).length sc] 30)) w1.heap.size #[.int .i64 N, .int .i64 T, .int .i64 E, .slice a n cp] 25) := P4.out.alloc _
      have X5 : Hid (Bk (x3.alloc (.cells #[.bool false, .slice sa (toI (V (k + 1))).length sc] 30)) Bl #[.bool false, .slice la (toI L).length lc] 30) := X4.out.alloc _
      have Y5 : Hid (Bk (x3.alloc (.cells #[.bool false, .slice sa (toI (V (k + 1))).length sc] 30)) Bv #[.bool false, .slice ra (toI (V k)).length rc] 30) := Y4.out.alloc _
      clear g3 o3 K3 G3 V3 Q3 P3 X3 Y3 M3 RM G4 V4 Q4 P4 X4 Y4 p0 p1 p2 p3 y0 y1
      have p0 := P5.out.c (i := 0) rfl
      have p1 := P5.out.c (i := 1) rfl
      have p2 := P5.out.c (i := 2) rfl
      have p3 := P5.out.c (i := 3) rfl
      have y0 := S5.out.c (i := 0) rfl
      have y1 := S5.out.c (i := 1) rfl
      have K4 := HK.out.kb rfl (k + 1) (by omega) (x3.alloc (.cells #[.bool false, .slice sa (toI (V (k + 1))).length sc] 30)) sa sc V5.out RS.out
      go_wp2_with fail
      refine K4.mono ?_
      rintro e x4 ⟨rfl, g4⟩
      have G6 : Hid (Old w x4) := Old.trans G5.out g4
      have V6 : Hid (Old w1 x4) := Old.trans V5.out g4
      have Q6 : Hid (Old w4 x4) := Old.trans Q5.out g4
      have P6 : Hid (Bk x4 w1.heap.size #[.int .i64 N, .int .i64 T, .int .i64 E, .slice a n cp] 25) := P5.out.old g4
      have X6 : Hid (Bk x4 Bl #[.bool false, .slice la (toI L).length lc] 30) := X5.out.old g4
      have Y6 : Hid (Bk x4 Bv #[.bool false, .slice ra (toI (V k)).length rc] 30) := Y5.out.old g4
      have S6 : Hid (Bk x4 x3.heap.size #[.bool false, .slice sa (toI (V (k + 1))).length sc] 30) := S5.out.old g4
      have R6 := hidP (RS.out.old g4)
      clear g4 K4 G5 V5 Q5 P5 X5 Y5 S5 RS p0 p1 p2 p3 y0 y1
      have p0 := S6.out.c (i := 0) rfl
      have p1 := S6.out.c (i := 1) rfl
      have y0 := X6.out.c (i := 0) rfl
      have y1 := X6.out.c (i := 1) rfl
      have K5 := HK.out.kc rfl k hlt x4 sa sc la lc R6.out (L4.out.old Q6.out)
      have hm := HK.out.mono rfl k hlt
      have dB : decide (B k < B (k + 1)) = false := decide_eq_false (by omega)
      have dB2 : decide (B (k + 1) > B k) = false := decide_eq_false (by omega)
      clear hm
      generalize B (k + 1) = b1 at *
      generalize B k = b0 at *
      go_wp2_with fail
      refine K5.mono ?_
      rintro e x5 ⟨rfl, g5⟩
      have G7 : Hid (Old w x5) := Old.trans G6.out g5
      have V7 : Hid (Old w1 x5) := Old.trans V6.out g5
      have Q7 : Hid (Old w4 x5) := Old.trans Q6.out g5
      have P7 : Hid (Bk x5 w1.heap.size #[.int .i64 N, .int .i64 T, .int .i64 E, .slice a n cp] 25) := P6.out.old g5
      have X7 : Hid (Bk x5 Bl #[.bool false, .slice la (toI L).length lc] 30) := X6.out.old g5
      have Y7 : Hid (Bk x5 Bv #[.bool false, .slice ra (toI (V k)).length rc] 30) := Y6.out.old g5
      have S7 : Hid (Bk x5 x3.heap.size #[.bool false, .slice sa (toI (V (k + 1))).length sc] 30) := S6.out.old g5
      have R7 := hidP (R6.out.old g5)
      clear g5 K5 G6 V6 Q6 P6 X6 Y6 S6 R6 p0 p1 y0 y1
      have p0 := S7.out.c (i := 0) rfl
      have p1 := S7.out.c (i := 1) rfl
      have y0 := Y7.out.c (i := 0) rfl
      have y1 := Y7.out.c (i := 1) rfl
      have f0 := frozen_of_row _ _ 0 _ _ Y7.out
      have f1 := frozen_of_row _ _ 1 _ _ Y7.out
      go_wp2_with fail
      have fin : ∀ (b : Nat) (cs : Array Value) (t : TypeId), b ≠ Bv → Bk x5 b cs t → Bk ((x5.setCell ⟨Bv, 0, none⟩ (.bool false)).setCell ⟨Bv, 1, none⟩ (.slice sa (toI (V (k + 1))).length sc)) b cs t := fun b cs t hb h => (heap_setCell_other _ ⟨Bv, 1, none⟩ b _ hb).trans ((heap_setCell_other _ ⟨Bv, 0, none⟩ b _ hb).trans h)
      try rw [HEW.out]
      have eY : Bk ((x5.setCell ⟨Bv, 0, none⟩ (.bool false)).setCell ⟨Bv, 1, none⟩ (.slice sa (toI (V (k + 1))).length sc)) Bv #[.bool false, .slice sa (toI (V (k + 1))).length sc] 30 := by
        generalize (toI (V (k + 1))).length = l1
        generalize (toI (V k)).length = l0 at Y7
        exact bk_twoD Y7.out _ _
      have eR := row_cellD (row_cellD R7.out NS.out 0 (.bool false)) NS.out 1 (.slice sa (toI (V (k + 1))).length sc)
      have o1 := (G7.out.own (p := ⟨Bv, 0, none⟩) (by show w.heap.size ≤ Bv; omega) (.bool false)).own (p := ⟨Bv, 1, none⟩) (by show w.heap.size ≤ Bv; omega) (.slice sa (toI (V (k + 1))).length sc)
      have o2 := (V7.out.own (p := ⟨Bv, 0, none⟩) (by show w1.heap.size ≤ Bv; omega) (.bool false)).own (p := ⟨Bv, 1, none⟩) (by show w1.heap.size ≤ Bv; omega) (.slice sa (toI (V (k + 1))).length sc)
      have o3 := (Q7.out.own (p := ⟨Bv, 0, none⟩) hq4.out (.bool false)).own (p := ⟨Bv, 1, none⟩) hq4.out (.slice sa (toI (V (k + 1))).length sc)
      have oP := fin _ _ _ n1 P7.out
      have oX := fin _ _ _ n2 X7.out
      refine ⟨⟨k + 1, sa, sc, hk1, rfl, o1, o2, o3, oP, oX, eY, eR, NS⟩, HMS.out⟩
    · obtain rfl : k = R := by omega
      have d1 : decide ((k : Int) < (k : Int)) = false := decide_eq_false (by omega)
      have d2 : decide (k < k) = false := decide_eq_false (by omega)
      go_wp2_with fail
      go_ret
      exact ⟨rfl, IG.out⟩
end Go.Proofs.YtihjndakgncdaaaGreatDoor
/- Proved: what a cursor's draws leave as it was; the draw out of a list that is written down. -/
namespace Go.Proofs.YtihjndakgncdaaaGreatDoor
open Go.ChangeShapes Go.WideShapes Go.ChangeAt Go.RowKit
set_option linter.unusedVariables false
set_option linter.unusedSimpArgs false
theorem chg_alloc {a b : World} {lo hi : Nat} (h : Chg a b lo hi) (o : Obj) : Chg a (b.alloc o) lo hi := h.trans (((Old.refl b).alloc o).toChg lo hi)
theorem chg_own {w W : World} {lo hi : Nat} (h : Chg w W lo hi) {p : Addr} (hp : w.heap.size ≤ p.block) (x : Value) : Chg w (W.setCell p x) lo hi :=
  ⟨h.os, h.tape, h.output, by rw [World.size_setCell]; exact h.size, fun b hb ho => by rw [heap_setCell_other _ _ _ _ (by show b ≠ p.block; omega)]; exact h.block b hb ho⟩
theorem chg_grown {a b c : World} {lo hi : Nat} {ob : Option Nat} (h : Chg a b lo hi) (g : b.grownBy c ob) (hk : ∀ k, ob = some k → a.heap.size ≤ k) : Chg a c lo hi :=
  ⟨g.os.trans h.os, g.tape.trans h.tape, g.output.trans h.output, Nat.le_trans h.size g.size, fun k hk1 ho => (g.block k (Nat.lt_of_lt_of_le hk1 h.size) (fun e => by have := hk k e.symm; omega)).trans (h.block k hk1 ho)⟩
theorem bk_other {w : World} {k : Nat} {cs : Array Value} {t : TypeId} (h : Bk w k cs t) {p : Addr} (hp : k ≠ p.block) (x : Value) : Bk (w.setCell p x) k cs t :=
  (heap_setCell_other _ _ _ _ hp).trans h
theorem cu_own {w : World} {code : Value} {len c B : Nat} (h : Cu w code len c B) {p : Addr} (hp : c < p.block) (x : Value) : Cu (w.setCell p x) code len c B :=
  h.kept (by rw [World.size_setCell]; exact Nat.le_refl _) (fun b hb => heap_setCell_other _ _ _ _ (by show b ≠ p.block; omega))
theorem row_lit3 (w : World) (xs : List Int) (h : 0 < xs.length) (t : TypeId) : Row (w.alloc (.cells (xs.map (Value.int .i64)).toArray t)) (.slice (some ⟨w.heap.size, 0, none⟩) xs.length xs.length) xs :=
  Or.inr ⟨w.heap.size, 0, xs.length, rfl, by simp, h, fun j hj => by rw [Nat.zero_add, cell_at _ _ _ _ _ rfl]; simp [List.getD, hj]⟩
theorem among_lit3 {w : World} {code : Value} {len c B : Nat} (h : Cu w code len c B) (hB : B ≤ 274877906944) (hl : len ≤ 9223372036854775807) (xs : List Int) (hn : 2 ≤ xs.length) (hn' : xs.length ≤ 1000) (t : TypeId) :
    Calls Tryz.prog 16 #[.pointer (some ⟨c, 0, none⟩), .slice (some ⟨w.heap.size, 0, none⟩) xs.length xs.length] (w.alloc (.cells (xs.map (Value.int .i64)).toArray t)) fun e w' => CuP (fun x => x ∈ xs) w code len c (B + 2) e w' := by
  refine (among_c (h.old ((Old.refl w).alloc _)) hB hl _ xs hn hn' (row_lit3 w xs (by omega) t) (fun b o n cap e => ?_)).mono ?_
  · injection e with e1
    injection e1 with e2
    injection e2 with e3
    have := h.lt
    omega
  · rintro e w' ⟨h1, h2, h3⟩
    exact ⟨h1, ((((Old.refl w).alloc _).toChg c (c + 1)).trans h2), h3⟩
end Go.Proofs.YtihjndakgncdaaaGreatDoor
