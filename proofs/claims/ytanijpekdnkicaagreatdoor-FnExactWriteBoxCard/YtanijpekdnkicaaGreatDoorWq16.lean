/- Proved: several texts in one: what each proves is said ahead of it. -/
import Derived.Test.YtanijpekdnkicaaGreatDoorWq14
import Derived.Test.YtanijpekdnkicaaGreatDoorWq15
import Derived.Test.YtanijpekdnkicaaGreatDoorWq10
/- Proved: the contract of the laws' markPairS. -/
namespace Go.Proofs.YtanijpekdnkicaaGreatDoor
open Go.ChangeShapes Go.WideShapes Go.ChangeAt Go.RowKit
open M1
set_option linter.unusedVariables false
set_option linter.unusedSimpArgs false
def TLt : Thing := fun W B cs => ∀ b, B b → b < W.heap.size
theorem good_TLt : GoodT TLt := by
  constructor
  · intro W W' B cs h hf b hb
    have h1 := hf b hb
    have h2 := h b hb
    by_cases h3 : b < W'.heap.size
    · exact h3
    · rw [Array.getElem?_eq_none (by omega), Array.getElem?_eq_getElem h2] at h1
      cases h1
  · intro W B cs h b hb
    exact h b hb
set_option maxRecDepth 100000 in
set_option maxHeartbeats 2000000 in
theorem markPairS_B (kss : List PrV) (v : Value) (k : Int) (B : Nat → Prop) (w : World) (hv : TKS kss w B [v]) (hl : kss.length ≤ 1048576) (hr : ∀ r ∈ kss, PrLe 1048576 r) (hk : 0 ≤ k) (hs : k + (offK kss kss.length : Int) ≤ 1073741824) :
    Calls Tryz.prog 19 #[v, .int .i64 k] w fun e w' => e = .returned (.int .i64 (k + offK kss kss.length)) ∧ ChB w w' B := by
  rcases Nat.eq_zero_or_pos kss.length with h0 | h0
  · obtain rfl := List.length_eq_zero_iff.1 h0
    obtain ⟨a, c, rfl⟩ := (TKS.rowK hv).slice
    clear hv h0
    go_enter Tryz.func19, Tryz.ntmps19
    go_wp2_with fail
    go_loopw [5, 1] (fun i l W => i = .int .i64 0 ∧ l = .int .i64 k ∧ W = w) (fun _ _ _ => 0)
    case atStart => exact ⟨rfl, rfl, rfl⟩
    case round =>
      obtain ⟨rfl, rfl, hW⟩ := hrel
      obtain rfl : w = wr := hW.symm
      go_wp2_with fail
      go_ret
      exact ⟨by simp [offK], ChB.refl w B⟩
  rcases hv with ⟨h1, _, _⟩ | ⟨p, cap, vs, Bs, e, hc, hb⟩
  · omega
  simp at e
  subst e
  have HR : Hid (∀ r ∈ kss, PrLe 1048576 r) := hr
  have HS : Hid (k + (offK kss kss.length : Int) ≤ 1073741824) := hs
  have HBB : Hid (∀ j b, j < kss.length → Bs j b → B b) := fun j b hj h => (hb b).2 (.inr ⟨j, hj, h⟩)
  have HI : Hid (TSc 77 2 kss.length kss.length (fun q => if q < 0 then TLt else elK kss q) w p cap vs Bs) := hc.ext (fun j _ => by simp)
  have HGD : Hid (∀ n j, GoodT (if j < n then TLt else elK kss j)) := fun n j => by
    split
    · exact good_TLt
    · exact good_elK _ _
  have HC0 : Hid (ChB w w B) := ChB.refl w B
  clear hc hb hr hs
  go_enter Tryz.func19, Tryz.ntmps19
  go_wp2_with fail
  go_loopw [5, 1] (fun i l W => ∃ j : Nat, j ≤ kss.length ∧ i = .int .i64 j ∧ l = .int .i64 (k + offK kss j) ∧ Hid (TSc 77 2 kss.length kss.length (fun q => if q < j then TLt else elK kss q) W p cap vs Bs) ∧ Hid (ChB w W B)) (fun i _ _ => kss.length - (intOf i).toNat)
  case atStart => exact ⟨0, by omega, rfl, by rw [offK_zero]; simp, HI, HC0⟩
  case round =>
    obtain ⟨j, hj, rfl, rfl, H1, HC⟩ := hrel
    clear HI HC0
    by_cases hlt : j < kss.length
    · have d1 : decide ((j : Int) < (kss.length : Int)) = true := by simp; omega
      have hel := H1.out.el j hlt
      simp only [Nat.lt_irrefl, if_false] at hel
      obtain ⟨x, y, B1, B2, ec, hE, hF, hB12, hdis⟩ := hel
      obtain ⟨ax, cx, ex⟩ := TSS.slice hE
      obtain ⟨ay, cy, ey⟩ := TSS.slice hF
      have q1 := H1.out.cell j 0 hlt (by omega)
      have q2 := H1.out.cell j 1 hlt (by omega)
      rw [ec] at q1 q2
      simp only [List.getElem?_cons_zero, List.getElem?_cons_succ, Nat.add_zero] at q1 q2
      rw [ex] at q1 hE
      rw [ey] at q2 hF
      have hm : pk kss j ∈ kss := by simp [pk, List.getD, hlt]
      have hrl := HR.out _ hm
      have hoj := offK_le kss (j + 1)
      have hos := offK_succ kss j hlt
      have hsum := HS.out
      unfold offP at hos
      have HN4 : Hid (k + (offK kss (j + 1) : Int) = k + (offK kss j : Int) + (offL (pk kss j).1 (pk kss j).1.length : Int) + (offL (pk kss j).2 (pk kss j).2.length : Int)) := by show _ = _; rw [hos]; omega
      have hkb : 0 ≤ k + (offK kss j : Int) ∧ k + (offK kss j : Int) + (offL (pk kss j).1 (pk kss j).1.length : Int) ≤ 1073741824 ∧ 0 ≤ k + (offK kss j : Int) + (offL (pk kss j).1 (pk kss j).1.length : Int) ∧ k + (offK kss j : Int) + (offL (pk kss j).1 (pk kss j).1.length : Int) + (offL (pk kss j).2 (pk kss j).2.length : Int) ≤ 1073741824 := by omega
      have hnp := H1.out.np j hlt
      have hpl := ownsRow_lt H1.out.row
      have hBl : ∀ b, Bs j b → b < wr.heap.size := fun b h => ((HGD.out j j).lt (H1.out.el j hlt) b h)
      have K1 := hidK (markIntSS_B (pk kss j).1 (.slice ax (pk kss j).1.length cx) (k + offK kss j) B1 wr hE (by have : ((pk kss j).1.length : Int) ≤ 1048576 := hrl.1.1; omega) (fun r hr => by have : (r.length : Int) ≤ 1048576 := hrl.1.2 r hr; omega) hkb.1 hkb.2.1)
      have K2 := hidK (fun w2 (g2 : ChB wr w2 B1) => markIntSS_B (pk kss j).2 (.slice ay (pk kss j).2.length cy) (k + offK kss j + offL (pk kss j).1 (pk kss j).1.length) B2 w2 ((good_TSS _).far hF (fun b hb => g2.block b (hBl b ((hB12 b).2 (.inr hb))) (fun h => hdis b h hb))) (by have : ((pk kss j).2.length : Int) ≤ 1048576 := hrl.2.1; omega) (fun r hr => by have : (r.length : Int) ≤ 1048576 := hrl.2.2 r hr; omega) hkb.2.2.1 hkb.2.2.2)
      have Q2 := hidK (fun w2 (g2 : ChB wr w2 B1) => (World.cell?_of_block (a := (⟨p, j * 2 + 1, none⟩ : Addr)) (w := wr) (w' := w2) (g2.block p hpl (fun h => hnp ((hB12 p).2 (.inl h))))).trans q2)
      have HX : Hid (∀ w2 w3, ChB wr w2 B1 → ChB w2 w3 B2 → ChB w w3 B ∧ TSc 77 2 kss.length kss.length (fun q => if q < j + 1 then TLt else elK kss q) w3 p cap vs Bs) := fun w2 w3 g2 g3 => by
        have gr : ChB wr w3 (Bs j) := (g2.sub (fun b hb => (hB12 b).2 (.inl hb))).trans (g3.sub (fun b hb => (hB12 b).2 (.inr hb)))
        refine ⟨HC.out.trans (gr.sub (fun b hb => HBB.out j b hlt hb)), (H1.out.sub (HGD.out j) j hlt (E' := TLt) (fun b h1 h2 => gr.block b h1 h2) (fun b hb => Nat.lt_of_lt_of_le (hBl b hb) gr.size)).ext (fun q hq => ?_)⟩
        by_cases h1 : q = j
        · subst h1
          simp
        · by_cases h2 : q < j
          · have h3 : q < j + 1 := by omega
            simp [h1, h2, h3]
          · have h3 : ¬ q < j + 1 := by omega
            simp [h1, h2, h3]
      clear hE hF ec ex ey q2 hm hrl hoj hos hsum hkb hnp hpl hBl hB12 hdis H1 HC
      generalize hnn : (offK kss (j + 1)) = nxt at *
      generalize (offK kss j : Nat) = off at *
      generalize pk kss j = pq at *
      generalize offL pq.1 pq.1.length = o1 at *
      generalize offL pq.2 pq.2.length = o2 at *
      go_wp2_with fail
      refine K1.out.mono ?_
      rintro e w2 ⟨rfl, g2, _⟩
      have q2 := Q2.out w2 g2
      have K3 := hidK (K2.out w2 g2)
      have G2 := hidK g2
      clear g2 K1 K2 Q2 q1
      go_wp2_with fail
      refine K3.out.mono ?_
      rintro e w3 ⟨rfl, g3, _⟩
      obtain ⟨n1, n2⟩ := HX.out w2 w3 G2.out g3
      have N1 := hidK n1
      have N2 := hidK n2
      clear n1 n2 g3 HX G2 K3 q2
      go_wp2_with fail
      refine ⟨⟨j + 1, by omega, by go_num, ?_, N2, N1⟩, by simp [intOf]; omega⟩
      rw [hnn, HN4.out]
    · have d1 : decide ((j : Int) < (kss.length : Int)) = false := by simp; omega
      obtain rfl : j = kss.length := by omega
      clear H1
      go_wp2_with fail
      go_ret
      exact ⟨rfl, HC.out⟩
end Go.Proofs.YtanijpekdnkicaaGreatDoor
/- Proved: boxes as a law carries them: marks. -/
namespace Go.Proofs.YtanijpekdnkicaaGreatDoor
open Go.ChangeShapes Go.WideShapes Go.ChangeAt Go.RowKit
set_option linter.unusedVariables false
set_option linter.unusedSimpArgs false
def bxN (ps pl : List Int) (xs3 : List (List (List Int))) (ls : List Int) (kss : List PrV) : Int := ps.length + pl.length + offT xs3 xs3.length + ls.length + offK kss kss.length
set_option maxRecDepth 100000 in
set_option maxHeartbeats 4000000 in
theorem markBox_any (kd N T E : Int) (ps pl : List Int) (xs3 : List (List (List Int))) (sg : Bool) (ls : List Int) (kss : List PrV) (k : Int) (w : World) (lo hi : Nat) (gv : Array Value) (hv : XBx kd N T E ps pl xs3 sg ls kss w lo hi gv) (hhi : hi ≤ w.heap.size) (hl : BxOff ps pl xs3 ls kss) (hk : 0 ≤ k) (hk' : k ≤ 1048576) :
    Calls Tryz.prog 29 #[.agg gv, .int .i64 k] w fun e w' => e = .returned (.int .i64 (k + bxN ps pl xs3 ls kss)) ∧ Chg w w' lo hi := by
  obtain ⟨⟨l0, l1, l2, l2', l3, l4, l4'⟩, lt, lk⟩ := hl
  obtain ⟨a0, c0, a1, c1, a2, c2, a3, c3, a4, c4, m1, m2, m3, m4, rfl, hm, h0, h1, h2, h3, h4⟩ := hv
  obtain ⟨B1, hB1⟩ : ∃ B : World, w.alloc (.cells #[.int .i64 kd, .int .i64 N, .int .i64 T, .int .i64 E, .slice a0 ps.length c0, .slice a1 pl.length c1, .slice a2 xs3.length c2, .bool sg, .slice a3 ls.length c3, .slice a4 kss.length c4] 59) = B := ⟨_, rfl⟩
  have O1 : Old w B1 := by rw [← hB1]; exact (Old.refl w).alloc _
  have P1 : Hid (Bk B1 w.heap.size #[.int .i64 kd, .int .i64 N, .int .i64 T, .int .i64 E, .slice a0 ps.length c0, .slice a1 pl.length c1, .slice a2 xs3.length c2, .bool sg, .slice a3 ls.length c3, .slice a4 kss.length c4] 59) := by rw [← hB1]; exact Bk.new' w _ _ rfl
  have C1 : Hid (Chg w B1 lo hi) := O1.toChg lo hi
  have X0 := hidK ((far_XP N T E ps).old h0 O1 (by omega))
  have X1 := hidK ((far_XI pl).old h1 O1 (by omega))
  have X2 := hidK ((far_XC xs3).old h2 O1 (by omega))
  have X3 := hidK ((far_XW sg ls).old h3 O1 (by omega))
  have X4 := hidK ((far_Ows (good_TKS kss)).old h4 O1 (by omega))
  have hsz := O1.size
  obtain ⟨kp, hkp⟩ : ∃ kp, w.heap.size = kp := ⟨_, rfl⟩
  rw [hkp] at P1 hhi hsz
  obtain ⟨K1, e1⟩ : ∃ z : Int, z = k + ps.length := ⟨_, rfl⟩
  obtain ⟨K2, e2⟩ : ∃ z : Int, z = K1 + pl.length := ⟨_, rfl⟩
  obtain ⟨K3, e3⟩ : ∃ z : Int, z = K2 + offT xs3 xs3.length := ⟨_, rfl⟩
  obtain ⟨K4, e4⟩ : ∃ z : Int, z = K3 + ls.length := ⟨_, rfl⟩
  obtain ⟨K5, e5⟩ : ∃ z : Int, z = K4 + offK kss kss.length := ⟨_, rfl⟩
  have e6 : k + bxN ps pl xs3 ls kss = K5 := by unfold bxN; omega
  rw [e6]
  have q1 : 0 ≤ K1 ∧ K1 ≤ 8388608 := by omega
  have q2 : 0 ≤ K2 ∧ K2 ≤ 8388608 := by omega
  have q3 : 0 ≤ K3 ∧ K3 ≤ 8388608 := by omega
  have q4 : 0 ≤ K4 ∧ K4 ≤ 8388608 := by omega
  have k0 := hidK (fun W g (h : XP N T E ps W lo m1 g) => kp_mark N T E ps k W lo m1 g h l0 hk (by omega))
  have k1 := hidK (fun W g (h : XI pl W m1 m2 g) => ki_mark pl K1 W m1 m2 g h l1 q1.1 (by omega))
  have k2 := hidK (fun W g (h : XC xs3 W m2 m3 g) => kc_mark xs3 K2 W m2 m3 g h l2 l2' q2.1 (by omega))
  have k3 := hidK (fun W g (h : XW sg ls W m3 m4 g) => kw_mark sg ls K3 W m3 m4 g h l3 q3.1 (by omega))
  have k4 := hidK (fun W v B (h : TKS kss W B [v]) => markPairS_B kss v K4 B W h l4 l4' q4.1 (by omega))
  rw [← e1] at k0
  rw [← e2] at k1
  rw [← e3] at k2
  rw [← e4] at k3
  rw [← e5] at k4
  clear e1 e2 e3 e4 e5 e6 h0 h1 h2 h3 h4 O1 l0 l1 l2 l2' l3 l4 l4' lt lk q1 q2 q3 q4
  have HM := hidK hm
  have x1 := P1.out.c (i := 1) rfl
  have x2 := P1.out.c (i := 2) rfl
  have x3 := P1.out.c (i := 3) rfl
  have x4 := P1.out.c (i := 4) rfl
  go_enter Tryz.func29, Tryz.ntmps29
  go_wp2_with fail
  refine (k0.out _ _ X0.out).mono ?_
  rintro e w1 ⟨rfl, g1⟩
  have C2 := hidK (C1.out.trans (g1.wide (Nat.le_refl _) (by omega)))
  have P2 := hidK (P1.out.chg g1 (.inr (by omega)))
  have X1' := hidK ((far_XI pl).chg X1.out g1 (by omega) (.inr (by omega)))
  have X2' := hidK ((far_XC xs3).chg X2.out g1 (by omega) (.inr (by omega)))
  have X3' := hidK ((far_XW sg ls).chg X3.out g1 (by omega) (.inr (by omega)))
  have X4' := hidK ((far_Ows (good_TKS kss)).chg X4.out g1 (by omega) (.inr (by omega)))
  have hs1 := g1.size
  clear g1 X0 X1 X2 X3 X4 C1 P1 k0 hB1 hkp x1 x2 x3 x4
  have x5 := P2.out.c (i := 5) rfl
  go_wp2_with fail
  refine (k1.out _ _ X1'.out).mono ?_
  rintro e w2 ⟨rfl, g2⟩
  have C3 := hidK (C2.out.trans (g2.wide (by omega) (by omega)))
  have P3 := hidK (P2.out.chg g2 (.inr (by omega)))
  have X2 := hidK ((far_XC xs3).chg X2'.out g2 (by omega) (.inr (by omega)))
  have X3 := hidK ((far_XW sg ls).chg X3'.out g2 (by omega) (.inr (by omega)))
  have X4 := hidK ((far_Ows (good_TKS kss)).chg X4'.out g2 (by omega) (.inr (by omega)))
  have hs2 := g2.size
  clear g2 X1' X2' X3' X4' C2 P2 k1 x5
  have x6 := P3.out.c (i := 6) rfl
  go_wp2_with fail
  refine (k2.out _ _ X2.out).mono ?_
  rintro e w3 ⟨rfl, g3, _⟩
  have C4 := hidK (C3.out.trans (g3.wide (by omega) (by omega)))
  have P4 := hidK (P3.out.chg g3 (.inr (by omega)))
  have X3' := hidK ((far_XW sg ls).chg X3.out g3 (by omega) (.inr (by omega)))
  have X4' := hidK ((far_Ows (good_TKS kss)).chg X4.out g3 (by omega) (.inr (by omega)))
  have hs3 := g3.size
  clear g3 X2 X3 X4 C3 P3 k2 x6
  have x7 := P4.out.c (i := 7) rfl
  have x8 := P4.out.c (i := 8) rfl
  go_wp2_with fail
  refine (k3.out _ _ X3'.out).mono ?_
  rintro e w4 ⟨rfl, g4⟩
  have C5 := hidK (C4.out.trans (g4.wide (by omega) (by omega)))
  have P5 := hidK (P4.out.chg g4 (.inr (by omega)))
  have X4 := (far_Ows (good_TKS kss)).chg X4'.out g4 (by omega) (.inr (by omega))
  obtain ⟨_, B, hB, hb⟩ := X4
  have HBB := hidK hb
  have K4' := hidK (k4.out w4 _ B hB)
  clear g4 X3' X4' C4 P4 k3 k4 x7 x8 hB hb
  have x9 := P5.out.c (i := 9) rfl
  go_wp2_with fail
  refine K4'.out.mono ?_
  rintro e w5 ⟨rfl, g5⟩
  have C6 := hidK (C5.out.trans ((g5.chg HBB.out).wide (by omega) (by omega)))
  clear g5 C5 P5 K4' HBB x9
  go_wp2_with fail
  go_ret
  exact ⟨rfl, C6.out⟩
end Go.Proofs.YtanijpekdnkicaaGreatDoor
/- Proved: boxes as a law carries them: copies. -/
namespace Go.Proofs.YtanijpekdnkicaaGreatDoor
open Go.ChangeShapes Go.WideShapes Go.ChangeAt Go.RowKit
set_option linter.unusedVariables false
set_option linter.unusedSimpArgs false
set_option maxRecDepth 100000 in
set_option maxHeartbeats 4000000 in
theorem toBox_any (kd N T E : Int) (ps pl : List Int) (xs3 : List (List (List Int))) (sg : Bool) (ls : List Int) (kss : List PrV) (v : Value) (w : World) (hv : BoxW w v kd N T E ps pl xs3 sg ls kss) (hl : BoxLe 1048576 ps pl xs3 ls kss) :
    Calls Tryz.prog 25 #[v] w fun e w' => ∃ g, e = .returned (.agg g) ∧ Old w w' ∧ XBx kd N T E ps pl xs3 sg ls kss w' w.heap.size w'.heap.size g := by
  obtain ⟨a0, c0, a1, c1, a2, c2, a3, c3, a4, c4, rfl, r0, r1, r2, r3, r4⟩ := hv
  obtain ⟨l0, l1, l2, l2', l3, l4, l4'⟩ := hl
  have k0 := hidK (fun W (g : Old w W) => kp_to N T E ps _ W (r0.old g) l0)
  have k1 := hidK (fun W (g : Old w W) => ki_to pl _ W (r1.old g) l1)
  have k2 := hidK (fun W (g : Old w W) => kc_to xs3 _ W (r2.old g) l2 l2')
  have k3 := hidK (fun W (g : Old w W) => kw_to sg ls _ W (r3.old g) l3)
  have k4 := hidK (fun W (g : Old w W) => toPairS_any kss _ W (r4.old g) l4 l4')
  clear r0 r1 r2 r3 r4 l0 l1 l2 l2' l3 l4 l4'
  obtain ⟨B1, hB1⟩ : ∃ B : World, ((w.alloc (.cells #[.int .i64 kd, .int .i64 N, .int .i64 T, .int .i64 E, .slice a0 ps.length c0, .slice a1 pl.length c1, .slice a2 xs3.length c2, .bool sg, .slice a3 ls.length c3, .slice a4 kss.length c4] 52)).alloc (.cells #[.int .i64 0, .int .i64 0, .int .i64 0, .int .i64 0, .slice none 0 0, .slice none 0 0, .slice none 0 0, .bool false, .slice none 0 0, .slice none 0 0] 59)).alloc (.cells #[.int .i64 kd, .int .i64 0, .int .i64 0, .int .i64 0, .slice none 0 0, .slice none 0 0, .slice none 0 0, .bool false, .slice none 0 0, .slice none 0 0] 59) = B := ⟨_, rfl⟩
  have O1 : Hid (Old w B1) := by rw [← hB1]; exact (((Old.refl w).alloc _).alloc _).alloc _
  have P1 : Hid (Bk B1 w.heap.size #[.int .i64 kd, .int .i64 N, .int .i64 T, .int .i64 E, .slice a0 ps.length c0, .slice a1 pl.length c1, .slice a2 xs3.length c2, .bool sg, .slice a3 ls.length c3, .slice a4 kss.length c4] 52) := by rw [← hB1]; exact ((Bk.new' w _ _ rfl).alloc _).alloc _
  have Q1 : Hid (Bk B1 (w.heap.size + 1) #[.int .i64 0, .int .i64 0, .int .i64 0, .int .i64 0, .slice none 0 0, .slice none 0 0, .slice none 0 0, .bool false, .slice none 0 0, .slice none 0 0] 59) := by rw [← hB1]; exact (Bk.new' _ _ _ (by simp)).alloc _
  have R1 : Hid (Bk B1 (w.heap.size + 1 + 1) #[.int .i64 kd, .int .i64 0, .int .i64 0, .int .i64 0, .slice none 0 0, .slice none 0 0, .slice none 0 0, .bool false, .slice none 0 0, .slice none 0 0] 59) := by rw [← hB1]; exact Bk.new' _ _ _ (by simp)
  have S1 : Hid (B1.heap.size = w.heap.size + 1 + 1 + 1) := by rw [← hB1]; show _ = _; simp
  obtain ⟨kp, hkp⟩ : ∃ kp, w.heap.size = kp := ⟨_, rfl⟩
  have HKP := hidK hkp
  rw [hkp] at P1 Q1 R1 S1
  have x0 := P1.out.c (i := 0) rfl
  have x1 := P1.out.c (i := 1) rfl
  have x2 := P1.out.c (i := 2) rfl
  have x3 := P1.out.c (i := 3) rfl
  have x4 := P1.out.c (i := 4) rfl
  go_enter Tryz.func25, Tryz.ntmps25
  go_wp2_with fail
  refine (k0.out _ O1.out).mono ?_
  rintro e w2 ⟨g0', rfl, g0, h0⟩
  obtain ⟨b0, d0, e0⟩ := shape_XP _ _ _ _ h0
  subst e0
  have hsz0 := g0.size
  have G0 := hidK (Old.trans O1.out g0)
  have P0t := hidK (P1.out.old g0)
  have Q0t := hidK (Q1.out.old g0)
  have R0t := hidK (R1.out.old g0)
  obtain ⟨m0, hm0⟩ : ∃ m, B1.heap.size = m := ⟨_, rfl⟩
  rw [hm0] at h0 hsz0
  have hm0' : m0 = kp + 1 + 1 + 1 := by rw [← hm0]; exact S1.out
  obtain ⟨m1, hm1⟩ : ∃ m, w2.heap.size = m := ⟨_, rfl⟩
  rw [hm1] at h0 hsz0
  have H0c0 : Hid (XP N T E ps w2 m0 m1 #[.int .i64 N, .int .i64 T, .int .i64 E, .slice b0 ps.length d0]) := h0
  clear g0 h0 x0 x1 x2 x3 x4 hB1 hkp O1 P1 Q1 R1 S1
  have z1 := R0t.out.c (i := 1) rfl
  have f1 := R0t.out.fz 1
  have z2 := R0t.out.c (i := 2) rfl
  have f2 := R0t.out.fz 2
  have z3 := R0t.out.c (i := 3) rfl
  have f3 := R0t.out.fz 3
  have z4 := R0t.out.c (i := 4) rfl
  have f4 := R0t.out.fz 4
  obtain ⟨V1, hV1⟩ : ∃ B : World, ((((w2.setCell ⟨kp + 1 + 1, 1, none⟩ (.int .i64 N)).setCell ⟨kp + 1 + 1, 2, none⟩ (.int .i64 T)).setCell ⟨kp + 1 + 1, 3, none⟩ (.int .i64 E)).setCell ⟨kp + 1 + 1, 4, none⟩ (.slice b0 ps.length d0)) = B := ⟨_, rfl⟩
  have hV1s : V1.heap.size = m1 := by rw [← hV1, ← hm1]; simp
  have G1s : Hid (Old w V1) := by rw [← hV1]; exact Old.own1 (Old.own1 (Old.own1 (Old.own1 (G0.out) (by have := HKP.out; omega) 1 _) (by have := HKP.out; omega) 2 _) (by have := HKP.out; omega) 3 _) (by have := HKP.out; omega) 4 _
  have P1s : Hid (Bk V1 (kp) #[.int .i64 kd, .int .i64 N, .int .i64 T, .int .i64 E, .slice a0 ps.length c0, .slice a1 pl.length c1, .slice a2 xs3.length c2, .bool sg, .slice a3 ls.length c3, .slice a4 kss.length c4] 52) := by rw [← hV1]; exact Bk.put1 (Bk.put1 (Bk.put1 (Bk.put1 (P0t.out) (by omega) 1 _) (by omega) 2 _) (by omega) 3 _) (by omega) 4 _
  have Q1s : Hid (Bk V1 (kp + 1) #[.int .i64 0, .int .i64 0, .int .i64 0, .int .i64 0, .slice none 0 0, .slice none 0 0, .slice none 0 0, .bool false, .slice none 0 0, .slice none 0 0] 59) := by rw [← hV1]; exact Bk.put1 (Bk.put1 (Bk.put1 (Bk.put1 (Q0t.out) (by omega) 1 _) (by omega) 2 _) (by omega) 3 _) (by omega) 4 _
  have R1s : Hid (Bk V1 (kp + 1 + 1) #[.int .i64 kd, .int .i64 N, .int .i64 T, .int .i64 E, .slice b0 ps.length d0, .slice none 0 0, .slice none 0 0, .bool false, .slice none 0 0, .slice none 0 0] 59) := by rw [← hV1]; exact Bk.set1 (i := 4) (Bk.set1 (i := 3) (Bk.set1 (i := 2) (Bk.set1 (i := 1) (R0t.out) (.int .i64 N)) (.int .i64 T)) (.int .i64 E)) (.slice b0 ps.length d0)
  have H0s0 : Hid (XP N T E ps V1 m0 m1 #[.int .i64 N, .int .i64 T, .int .i64 E, .slice b0 ps.length d0]) := by rw [← hV1]; exact (far_XP N T E ps).put1 ((far_XP N T E ps).put1 ((far_XP N T E ps).put1 ((far_XP N T E ps).put1 (H0c0.out) (by omega) 1 _) (by omega) 2 _) (by omega) 3 _) (by omega) 4 _
  clear G0 P0t Q0t R0t H0c0
  have x5 := P1s.out.c (i := 5) rfl
  go_wp2_with fail
  clear z1 f1 z2 f2 z3 f3 z4 f4 hm1
  refine (k1.out _ G1s.out).mono ?_
  rintro e w3 ⟨g1', rfl, g1, h1⟩
  obtain ⟨b1, d1, e1⟩ := shape_XI _ _ _ _ h1
  subst e1
  have hsz1 := g1.size
  have G1 := hidK (Old.trans G1s.out g1)
  have P1t := hidK (P1s.out.old g1)
  have Q1t := hidK (Q1s.out.old g1)
  have R1t := hidK (R1s.out.old g1)
  have H0c1 : Hid (XP N T E ps w3 m0 m1 #[.int .i64 N, .int .i64 T, .int .i64 E, .slice b0 ps.length d0]) := (far_XP N T E ps).old H0s0.out g1 (by omega)
  rw [hV1s] at h1 hsz1
  obtain ⟨m2, hm2⟩ : ∃ m, w3.heap.size = m := ⟨_, rfl⟩
  rw [hm2] at h1 hsz1
  have H1c1 : Hid (XI pl w3 m1 m2 (.slice b1 pl.length d1)) := h1
  clear g1 h1 x5 hV1 G1s P1s Q1s R1s H0s0
  have z5 := R1t.out.c (i := 5) rfl
  have f5 := R1t.out.fz 5
  obtain ⟨V2, hV2⟩ : ∃ B : World, (w3.setCell ⟨kp + 1 + 1, 5, none⟩ (.slice b1 pl.length d1)) = B := ⟨_, rfl⟩
  have hV2s : V2.heap.size = m2 := by rw [← hV2, ← hm2]; simp
  have G2s : Hid (Old w V2) := by rw [← hV2]; exact Old.own1 (G1.out) (by have := HKP.out; omega) 5 _
  have P2s : Hid (Bk V2 (kp) #[.int .i64 kd, .int .i64 N, .int .i64 T, .int .i64 E, .slice a0 ps.length c0, .slice a1 pl.length c1, .slice a2 xs3.length c2, .bool sg, .slice a3 ls.length c3, .slice a4 kss.length c4] 52) := by rw [← hV2]; exact Bk.put1 (P1t.out) (by omega) 5 _
  have Q2s : Hid (Bk V2 (kp + 1) #[.int .i64 0, .int .i64 0, .int .i64 0, .int .i64 0, .slice none 0 0, .slice none 0 0, .slice none 0 0, .bool false, .slice none 0 0, .slice none 0 0] 59) := by rw [← hV2]; exact Bk.put1 (Q1t.out) (by omega) 5 _
  have R2s : Hid (Bk V2 (kp + 1 + 1) #[.int .i64 kd, .int .i64 N, .int .i64 T, .int .i64 E, .slice b0 ps.length d0, .slice b1 pl.length d1, .slice none 0 0, .bool false, .slice none 0 0, .slice none 0 0] 59) := by rw [← hV2]; exact Bk.set1 (i := 5) (R1t.out) (.slice b1 pl.length d1)
  have H0s1 : Hid (XP N T E ps V2 m0 m1 #[.int .i64 N, .int .i64 T, .int .i64 E, .slice b0 ps.length d0]) := by rw [← hV2]; exact (far_XP N T E ps).put1 (H0c1.out) (by omega) 5 _
  have H1s1 : Hid (XI pl V2 m1 m2 (.slice b1 pl.length d1)) := by rw [← hV2]; exact (far_XI pl).put1 (H1c1.out) (by omega) 5 _
  clear G1 P1t Q1t R1t H0c1 H1c1
  have x6 := P2s.out.c (i := 6) rfl
  go_wp2_with fail
  clear z5 f5 hm2
  refine (k2.out _ G2s.out).mono ?_
  rintro e w4 ⟨g2', rfl, g2, h2⟩
  obtain ⟨b2, d2, e2⟩ := shape_XC _ _ _ _ h2
  subst e2
  have hsz2 := g2.size
  have G2 := hidK (Old.trans G2s.out g2)
  have P2t := hidK (P2s.out.old g2)
  have Q2t := hidK (Q2s.out.old g2)
  have R2t := hidK (R2s.out.old g2)
  have H0c2 : Hid (XP N T E ps w4 m0 m1 #[.int .i64 N, .int .i64 T, .int .i64 E, .slice b0 ps.length d0]) := (far_XP N T E ps).old H0s1.out g2 (by omega)
  have H1c2 : Hid (XI pl w4 m1 m2 (.slice b1 pl.length d1)) := (far_XI pl).old H1s1.out g2 (by omega)
  rw [hV2s] at h2 hsz2
  obtain ⟨m3, hm3⟩ : ∃ m, w4.heap.size = m := ⟨_, rfl⟩
  rw [hm3] at h2 hsz2
  have H2c2 : Hid (XC xs3 w4 m2 m3 #[.slice b2 xs3.length d2]) := h2
  clear g2 h2 x6 hV2 G2s P2s Q2s R2s H0s1 H1s1
  have z6 := R2t.out.c (i := 6) rfl
  have f6 := R2t.out.fz 6
  obtain ⟨V3, hV3⟩ : ∃ B : World, (w4.setCell ⟨kp + 1 + 1, 6, none⟩ (.slice b2 xs3.length d2)) = B := ⟨_, rfl⟩
  have hV3s : V3.heap.size = m3 := by rw [← hV3, ← hm3]; simp
  have G3s : Hid (Old w V3) := by rw [← hV3]; exact Old.own1 (G2.out) (by have := HKP.out; omega) 6 _
  have P3s : Hid (Bk V3 (kp) #[.int .i64 kd, .int .i64 N, .int .i64 T, .int .i64 E, .slice a0 ps.length c0, .slice a1 pl.length c1, .slice a2 xs3.length c2, .bool sg, .slice a3 ls.length c3, .slice a4 kss.length c4] 52) := by rw [← hV3]; exact Bk.put1 (P2t.out) (by omega) 6 _
  have Q3s : Hid (Bk V3 (kp + 1) #[.int .i64 0, .int .i64 0, .int .i64 0, .int .i64 0, .slice none 0 0, .slice none 0 0, .slice none 0 0, .bool false, .slice none 0 0, .slice none 0 0] 59) := by rw [← hV3]; exact Bk.put1 (Q2t.out) (by omega) 6 _
  have R3s : Hid (Bk V3 (kp + 1 + 1) #[.int .i64 kd, .int .i64 N, .int .i64 T, .int .i64 E, .slice b0 ps.length d0, .slice b1 pl.length d1, .slice b2 xs3.length d2, .bool false, .slice none 0 0, .slice none 0 0] 59) := by rw [← hV3]; exact Bk.set1 (i := 6) (R2t.out) (.slice b2 xs3.length d2)
  have H0s2 : Hid (XP N T E ps V3 m0 m1 #[.int .i64 N, .int .i64 T, .int .i64 E, .slice b0 ps.length d0]) := by rw [← hV3]; exact (far_XP N T E ps).put1 (H0c2.out) (by omega) 6 _
  have H1s2 : Hid (XI pl V3 m1 m2 (.slice b1 pl.length d1)) := by rw [← hV3]; exact (far_XI pl).put1 (H1c2.out) (by omega) 6 _
  have H2s2 : Hid (XC xs3 V3 m2 m3 #[.slice b2 xs3.length d2]) := by rw [← hV3]; exact (far_XC xs3).put1 (H2c2.out) (by omega) 6 _
  clear G2 P2t Q2t R2t H0c2 H1c2 H2c2
  have x7 := P3s.out.c (i := 7) rfl
  have x8 := P3s.out.c (i := 8) rfl
  go_wp2_with fail
  clear z6 f6 hm3
  refine (k3.out _ G3s.out).mono ?_
  rintro e w5 ⟨g3', rfl, g3, h3⟩
  obtain ⟨b3, d3, e3⟩ := shape_XW _ _ _ _ h3
  subst e3
  have hsz3 := g3.size
  have G3 := hidK (Old.trans G3s.out g3)
  have P3t := hidK (P3s.out.old g3)
  have Q3t := hidK (Q3s.out.old g3)
  have R3t := hidK (R3s.out.old g3)
  have H0c3 : Hid (XP N T E ps w5 m0 m1 #[.int .i64 N, .int .i64 T, .int .i64 E, .slice b0 ps.length d0]) := (far_XP N T E ps).old H0s2.out g3 (by omega)
  have H1c3 : Hid (XI pl w5 m1 m2 (.slice b1 pl.length d1)) := (far_XI pl).old H1s2.out g3 (by omega)
  have H2c3 : Hid (XC xs3 w5 m2 m3 #[.slice b2 xs3.length d2]) := (far_XC xs3).old H2s2.out g3 (by omega)
  rw [hV3s] at h3 hsz3
  obtain ⟨m4, hm4⟩ : ∃ m, w5.heap.size = m := ⟨_, rfl⟩
  rw [hm4] at h3 hsz3
  have H3c3 : Hid (XW sg ls w5 m3 m4 #[.bool sg, .slice b3 ls.length d3]) := h3
  clear g3 h3 x7 x8 hV3 G3s P3s Q3s R3s H0s2 H1s2 H2s2
  have z7 := R3t.out.c (i := 7) rfl
  have f7 := R3t.out.fz 7
  have z8 := R3t.out.c (i := 8) rfl
  have f8 := R3t.out.fz 8
  obtain ⟨V4, hV4⟩ : ∃ B : World, ((w5.setCell ⟨kp + 1 + 1, 7, none⟩ (.bool sg)).setCell ⟨kp + 1 + 1, 8, none⟩ (.slice b3 ls.length d3)) = B := ⟨_, rfl⟩
  have hV4s : V4.heap.size = m4 := by rw [← hV4, ← hm4]; simp
  have G4s : Hid (Old w V4) := by rw [← hV4]; exact Old.own1 (Old.own1 (G3.out) (by have := HKP.out; omega) 7 _) (by have := HKP.out; omega) 8 _
  have P4s : Hid (Bk V4 (kp) #[.int .i64 kd, .int .i64 N, .int .i64 T, .int .i64 E, .slice a0 ps.length c0, .slice a1 pl.length c1, .slice a2 xs3.length c2, .bool sg, .slice a3 ls.length c3, .slice a4 kss.length c4] 52) := by rw [← hV4]; exact Bk.put1 (Bk.put1 (P3t.out) (by omega) 7 _) (by omega) 8 _
  have Q4s : Hid (Bk V4 (kp + 1) #[.int .i64 0, .int .i64 0, .int .i64 0, .int .i64 0, .slice none 0 0, .slice none 0 0, .slice none 0 0, .bool false, .slice none 0 0, .slice none 0 0] 59) := by rw [← hV4]; exact Bk.put1 (Bk.put1 (Q3t.out) (by omega) 7 _) (by omega) 8 _
  have R4s : Hid (Bk V4 (kp + 1 + 1) #[.int .i64 kd, .int .i64 N, .int .i64 T, .int .i64 E, .slice b0 ps.length d0, .slice b1 pl.length d1, .slice b2 xs3.length d2, .bool sg, .slice b3 ls.length d3, .slice none 0 0] 59) := by rw [← hV4]; exact Bk.set1 (i := 8) (Bk.set1 (i := 7) (R3t.out) (.bool sg)) (.slice b3 ls.length d3)
  have H0s3 : Hid (XP N T E ps V4 m0 m1 #[.int .i64 N, .int .i64 T, .int .i64 E, .slice b0 ps.length d0]) := by rw [← hV4]; exact (far_XP N T E ps).put1 ((far_XP N T E ps).put1 (H0c3.out) (by omega) 7 _) (by omega) 8 _
  have H1s3 : Hid (XI pl V4 m1 m2 (.slice b1 pl.length d1)) := by rw [← hV4]; exact (far_XI pl).put1 ((far_XI pl).put1 (H1c3.out) (by omega) 7 _) (by omega) 8 _
  have H2s3 : Hid (XC xs3 V4 m2 m3 #[.slice b2 xs3.length d2]) := by rw [← hV4]; exact (far_XC xs3).put1 ((far_XC xs3).put1 (H2c3.out) (by omega) 7 _) (by omega) 8 _
  have H3s3 : Hid (XW sg ls V4 m3 m4 #[.bool sg, .slice b3 ls.length d3]) := by rw [← hV4]; exact (far_XW sg ls).put1 ((far_XW sg ls).put1 (H3c3.out) (by omega) 7 _) (by omega) 8 _
  clear G3 P3t Q3t R3t H0c3 H1c3 H2c3 H3c3
  have x9 := P4s.out.c (i := 9) rfl
  go_wp2_with fail
  clear z7 f7 z8 f8 hm4
  refine (k4.out _ G4s.out).mono ?_
  rintro e w6 ⟨g4', rfl, g4, h4⟩
  obtain ⟨b4, d4, e4⟩ := h4.rowK.slice
  subst e4
  have hsz4 := g4.size
  have G4 := hidK (Old.trans G4s.out g4)
  have P4t := hidK (P4s.out.old g4)
  have Q4t := hidK (Q4s.out.old g4)
  have R4t := hidK (R4s.out.old g4)
  have H0c4 : Hid (XP N T E ps w6 m0 m1 #[.int .i64 N, .int .i64 T, .int .i64 E, .slice b0 ps.length d0]) := (far_XP N T E ps).old H0s3.out g4 (by omega)
  have H1c4 : Hid (XI pl w6 m1 m2 (.slice b1 pl.length d1)) := (far_XI pl).old H1s3.out g4 (by omega)
  have H2c4 : Hid (XC xs3 w6 m2 m3 #[.slice b2 xs3.length d2]) := (far_XC xs3).old H2s3.out g4 (by omega)
  have H3c4 : Hid (XW sg ls w6 m3 m4 #[.bool sg, .slice b3 ls.length d3]) := (far_XW sg ls).old H3s3.out g4 (by omega)
  rw [hV4s] at h4 hsz4
  obtain ⟨m5, hm5⟩ : ∃ m, w6.heap.size = m := ⟨_, rfl⟩
  rw [hm5] at h4 hsz4
  have H4c4 : Hid (Ows (TKS kss) w6 m4 m5 [.slice b4 kss.length d4]) := h4
  clear g4 h4 x9 hV4 G4s P4s Q4s R4s H0s3 H1s3 H2s3 H3s3
  have z9 := R4t.out.c (i := 9) rfl
  have f9 := R4t.out.fz 9
  obtain ⟨V5, hV5⟩ : ∃ B : World, (w6.setCell ⟨kp + 1 + 1, 9, none⟩ (.slice b4 kss.length d4)) = B := ⟨_, rfl⟩
  have hV5s : V5.heap.size = m5 := by rw [← hV5, ← hm5]; simp
  have G5s : Hid (Old w V5) := by rw [← hV5]; exact Old.own1 (G4.out) (by have := HKP.out; omega) 9 _
  have P5s : Hid (Bk V5 (kp) #[.int .i64 kd, .int .i64 N, .int .i64 T, .int .i64 E, .slice a0 ps.length c0, .slice a1 pl.length c1, .slice a2 xs3.length c2, .bool sg, .slice a3 ls.length c3, .slice a4 kss.length c4] 52) := by rw [← hV5]; exact Bk.put1 (P4t.out) (by omega) 9 _
  have Q5s : Hid (Bk V5 (kp + 1) #[.int .i64 0, .int .i64 0, .int .i64 0, .int .i64 0, .slice none 0 0, .slice none 0 0, .slice none 0 0, .bool false, .slice none 0 0, .slice none 0 0] 59) := by rw [← hV5]; exact Bk.put1 (Q4t.out) (by omega) 9 _
  have R5s : Hid (Bk V5 (kp + 1 + 1) #[.int .i64 kd, .int .i64 N, .int .i64 T, .int .i64 E, .slice b0 ps.length d0, .slice b1 pl.length d1, .slice b2 xs3.length d2, .bool sg, .slice b3 ls.length d3, .slice b4 kss.length d4] 59) := by rw [← hV5]; exact Bk.set1 (i := 9) (R4t.out) (.slice b4 kss.length d4)
  have H0s4 : Hid (XP N T E ps V5 m0 m1 #[.int .i64 N, .int .i64 T, .int .i64 E, .slice b0 ps.length d0]) := by rw [← hV5]; exact (far_XP N T E ps).put1 (H0c4.out) (by omega) 9 _
  have H1s4 : Hid (XI pl V5 m1 m2 (.slice b1 pl.length d1)) := by rw [← hV5]; exact (far_XI pl).put1 (H1c4.out) (by omega) 9 _
  have H2s4 : Hid (XC xs3 V5 m2 m3 #[.slice b2 xs3.length d2]) := by rw [← hV5]; exact (far_XC xs3).put1 (H2c4.out) (by omega) 9 _
  have H3s4 : Hid (XW sg ls V5 m3 m4 #[.bool sg, .slice b3 ls.length d3]) := by rw [← hV5]; exact (far_XW sg ls).put1 (H3c4.out) (by omega) 9 _
  have H4s4 : Hid (Ows (TKS kss) V5 m4 m5 [.slice b4 kss.length d4]) := by rw [← hV5]; exact (far_Ows (good_TKS kss)).put1 (H4c4.out) (by omega) 9 _
  clear G4 P4t Q4t R4t H0c4 H1c4 H2c4 H3c4 H4c4
  have u0 := R5s.out.c (i := 0) rfl
  have t0 := Q5s.out.c (i := 0) rfl
  have tf0 := Q5s.out.fz 0
  have u1 := R5s.out.c (i := 1) rfl
  have t1 := Q5s.out.c (i := 1) rfl
  have tf1 := Q5s.out.fz 1
  have u2 := R5s.out.c (i := 2) rfl
  have t2 := Q5s.out.c (i := 2) rfl
  have tf2 := Q5s.out.fz 2
  have u3 := R5s.out.c (i := 3) rfl
  have t3 := Q5s.out.c (i := 3) rfl
  have tf3 := Q5s.out.fz 3
  have u4 := R5s.out.c (i := 4) rfl
  have t4 := Q5s.out.c (i := 4) rfl
  have tf4 := Q5s.out.fz 4
  have u5 := R5s.out.c (i := 5) rfl
  have t5 := Q5s.out.c (i := 5) rfl
  have tf5 := Q5s.out.fz 5
  have u6 := R5s.out.c (i := 6) rfl
  have t6 := Q5s.out.c (i := 6) rfl
  have tf6 := Q5s.out.fz 6
  have u7 := R5s.out.c (i := 7) rfl
  have t7 := Q5s.out.c (i := 7) rfl
  have tf7 := Q5s.out.fz 7
  have u8 := R5s.out.c (i := 8) rfl
  have t8 := Q5s.out.c (i := 8) rfl
  have tf8 := Q5s.out.fz 8
  have u9 := R5s.out.c (i := 9) rfl
  have t9 := Q5s.out.c (i := 9) rfl
  have tf9 := Q5s.out.fz 9
  go_wp2_with fail
  have QF := Bk.ten Q5s.out (.int .i64 kd) (.int .i64 N) (.int .i64 T) (.int .i64 E) (.slice b0 ps.length d0) (.slice b1 pl.length d1) (.slice b2 xs3.length d2) (.bool sg) (.slice b3 ls.length d3) (.slice b4 kss.length d4)
  have q0 := QF.c (i := 0) rfl
  have q1 := QF.c (i := 1) rfl
  have q2 := QF.c (i := 2) rfl
  have q3 := QF.c (i := 3) rfl
  have q4 := QF.c (i := 4) rfl
  have q5 := QF.c (i := 5) rfl
  have q6 := QF.c (i := 6) rfl
  have q7 := QF.c (i := 7) rfl
  have q8 := QF.c (i := 8) rfl
  have q9 := QF.c (i := 9) rfl
  have hkp' := HKP.out
  refine bodyPost_ret (v := .agg #[.int .i64 kd, .int .i64 N, .int .i64 T, .int .i64 E, .slice b0 ps.length d0, .slice b1 pl.length d1, .slice b2 xs3.length d2, .bool sg, .slice b3 ls.length d3, .slice b4 kss.length d4]) (by simp [results, Tryz.results25, go_sem, q0, q1, q2, q3, q4, q5, q6, q7, q8, q9]) rfl ?_
  refine ⟨_, rfl, Old.own1 (Old.own1 (Old.own1 (Old.own1 (Old.own1 (Old.own1 (Old.own1 (Old.own1 (Old.own1 (Old.own1 (G5s.out) (by have := HKP.out; omega) 0 _) (by have := HKP.out; omega) 1 _) (by have := HKP.out; omega) 2 _) (by have := HKP.out; omega) 3 _) (by have := HKP.out; omega) 4 _) (by have := HKP.out; omega) 5 _) (by have := HKP.out; omega) 6 _) (by have := HKP.out; omega) 7 _) (by have := HKP.out; omega) 8 _) (by have := HKP.out; omega) 9 _, _, _, _, _, _, _, _, _, _, _, m1, m2, m3, m4, rfl, ⟨by omega, by omega, by omega, by omega, by simp [hV5s]; omega⟩, ?_, ?_, ?_, ?_, ?_⟩
  · exact xp_low ((far_XP N T E ps).put1 ((far_XP N T E ps).put1 ((far_XP N T E ps).put1 ((far_XP N T E ps).put1 ((far_XP N T E ps).put1 ((far_XP N T E ps).put1 ((far_XP N T E ps).put1 ((far_XP N T E ps).put1 ((far_XP N T E ps).put1 ((far_XP N T E ps).put1 (H0s4.out) (by omega) 0 _) (by omega) 1 _) (by omega) 2 _) (by omega) 3 _) (by omega) 4 _) (by omega) 5 _) (by omega) 6 _) (by omega) 7 _) (by omega) 8 _) (by omega) 9 _) (by omega)
  · exact (far_XI pl).put1 ((far_XI pl).put1 ((far_XI pl).put1 ((far_XI pl).put1 ((far_XI pl).put1 ((far_XI pl).put1 ((far_XI pl).put1 ((far_XI pl).put1 ((far_XI pl).put1 ((far_XI pl).put1 (H1s4.out) (by omega) 0 _) (by omega) 1 _) (by omega) 2 _) (by omega) 3 _) (by omega) 4 _) (by omega) 5 _) (by omega) 6 _) (by omega) 7 _) (by omega) 8 _) (by omega) 9 _
  · exact (far_XC xs3).put1 ((far_XC xs3).put1 ((far_XC xs3).put1 ((far_XC xs3).put1 ((far_XC xs3).put1 ((far_XC xs3).put1 ((far_XC xs3).put1 ((far_XC xs3).put1 ((far_XC xs3).put1 ((far_XC xs3).put1 (H2s4.out) (by omega) 0 _) (by omega) 1 _) (by omega) 2 _) (by omega) 3 _) (by omega) 4 _) (by omega) 5 _) (by omega) 6 _) (by omega) 7 _) (by omega) 8 _) (by omega) 9 _
  · exact (far_XW sg ls).put1 ((far_XW sg ls).put1 ((far_XW sg ls).put1 ((far_XW sg ls).put1 ((far_XW sg ls).put1 ((far_XW sg ls).put1 ((far_XW sg ls).put1 ((far_XW sg ls).put1 ((far_XW sg ls).put1 ((far_XW sg ls).put1 (H3s4.out) (by omega) 0 _) (by omega) 1 _) (by omega) 2 _) (by omega) 3 _) (by omega) 4 _) (by omega) 5 _) (by omega) 6 _) (by omega) 7 _) (by omega) 8 _) (by omega) 9 _
  · exact Ows.low ((far_Ows (good_TKS kss)).put1 ((far_Ows (good_TKS kss)).put1 ((far_Ows (good_TKS kss)).put1 ((far_Ows (good_TKS kss)).put1 ((far_Ows (good_TKS kss)).put1 ((far_Ows (good_TKS kss)).put1 ((far_Ows (good_TKS kss)).put1 ((far_Ows (good_TKS kss)).put1 ((far_Ows (good_TKS kss)).put1 ((far_Ows (good_TKS kss)).put1 (H4s4.out) (by omega) 0 _) (by omega) 1 _) (by omega) 2 _) (by omega) 3 _) (by omega) 4 _) (by omega) 5 _) (by omega) 6 _) (by omega) 7 _) (by omega) 8 _) (by omega) 9 _) (Nat.le_refl _) (by simp [hV5s]) (Nat.le_refl _)
end Go.Proofs.YtanijpekdnkicaaGreatDoor
/- Proved: whether rows are as they should be, as the model tells it. -/
namespace Go.Proofs.YtanijpekdnkicaaGreatDoor
open Go.ChangeShapes Go.WideShapes Go.ChangeAt Go.RowKit
open M1
set_option linter.unusedVariables false
set_option linter.unusedSimpArgs false
def rwA (N : Int) (ps : List Int) (xss : List (List Int)) (k : Nat) : Bool := decide (∀ i, i < ps.length → k ≤ i → polyB (ps.getD i 0) N (xss.getD i []) = true)
theorem rwA_end {N : Int} {ps : List Int} {xss : List (List Int)} {k : Nat} (h : ps.length ≤ k) : rwA N ps xss k = true := decide_eq_true (fun i h1 h2 => by omega)
theorem rwA_no {N : Int} {ps : List Int} {xss : List (List Int)} {k : Nat} (h : k < ps.length) (hk : polyB (ps.getD k 0) N (xss.getD k []) = false) : rwA N ps xss k = false :=
  decide_eq_false (fun f => by rw [f k h (Nat.le_refl _)] at hk; cases hk)
theorem rwA_yes {N : Int} {ps : List Int} {xss : List (List Int)} {k : Nat} (hk : polyB (ps.getD k 0) N (xss.getD k []) = true) : rwA N ps xss k = rwA N ps xss (k + 1) := by
  unfold rwA
  apply decide_eq_decide.2
  constructor
  · exact fun f i h1 h2 => f i h1 (by omega)
  · intro f i h1 h2
    rcases Nat.eq_or_lt_of_le h2 with e | e
    · subst e
      exact hk
    · exact f i h1 e
def rwB (N : Int) (ps : List Int) (xss : List (List Int)) : Bool := decide (xss.length = ps.length) && rwA N ps xss 0
set_option maxRecDepth 100000 in
set_option maxHeartbeats 2000000 in
theorem spec_l5Rows (N : Int) (ps : List Int) (xss : List (List Int)) (v u : Value) (w : World) (hv : Row w v ps) (hu : RowS w u xss) (hl : xss.length ≤ 1048576) (hr : ∀ r ∈ xss, r.length ≤ 1048576) (hs : spB N ps = true) :
    Calls Tryz.prog 104 #[.agg #[.int .i64 N, v], u] w fun e w' => e = .returned (.bool (rwB N ps xss)) ∧ Old w w' := by
  obtain ⟨hz, hbb, hring⟩ := sp_ring hs
  have hlen := (bas_at hbb).1
  have HPM : Hid (∀ k, k < ps.length → pmB (ps.getD k 0) = true) := (bas_at hbb).2
  have HR : Hid (∀ r ∈ xss, r.length ≤ 1048576) := hr
  obtain ⟨a0, cap0, ev⟩ := hv.slice
  obtain ⟨a1, cap1, eu⟩ := hu.slice
  subst ev eu
  have HV : Hid (Row w (.slice a0 ps.length cap0) ps) := hv
  have HU : Hid (RowS w (.slice a1 xss.length cap1) xss) := hu
  have hN : 2 ≤ N ∧ N ≤ 16 := by omega
  clear hv hu hr hring hbb hz hs
  by_cases hn : xss.length = ps.length
  · have HB : Hid (rwA N ps xss 0 = rwB N ps xss) := by show _ = _; unfold rwB; rw [decide_eq_true hn]; rfl
    have dn : ((xss.length : Int) != (ps.length : Int)) = false := by simp; omega
    generalize rwB N ps xss = B at *
    rcases HV.out with ⟨a, cap, e, e2⟩ | ⟨b, o, cap, e, hb, h1, hc⟩
    · subst e2
      simp at hlen
    simp only [Value.slice.injEq, true_and] at e
    obtain ⟨rfl, rfl⟩ := e
    rcases HU.out with ⟨a, cap, e, e2⟩ | ⟨b', o', cap, us, e, hb', h1', hc'⟩
    · subst e2
      simp at hn
      omega
    simp only [Value.slice.injEq, true_and] at e
    obtain ⟨rfl, rfl⟩ := e
    have HC : Hid (∀ j, j < ps.length → w.cell? ⟨b, o + j, none⟩ = some (.int .i64 (ps.getD j 0))) := hc
    have HC' : Hid (∀ j, j < xss.length → w.cell? ⟨b', o' + j, none⟩ = some (us j) ∧ Row w (us j) (xss.getD j [])) := hc'
    have HNN : Hid (xss.length = ps.length) := hn
    clear hc hc' hn
    have HN : Hid (Old w (w.alloc (.cells #[.int .i64 N, .slice (some ⟨b, o, none⟩) ps.length cap0] 104))) := (Old.refl w).alloc _
    go_enter Tryz.func104, Tryz.ntmps104
    go_wp2_with fail
    go_loopw [16] (fun i W => ∃ k : Nat, k ≤ ps.length ∧ i = .int .i64 k ∧ Hid (rwA N ps xss k = B) ∧ Hid (Old (w.alloc (.cells #[.int .i64 N, .slice (some ⟨b, o, none⟩) ps.length cap0] 104)) W)) (fun i _ => ps.length - (intOf i).toNat)
    case atStart => exact ⟨0, by omega, rfl, HB, Old.refl _⟩
    case round =>
      obtain ⟨k, hk, rfl, H1, HG⟩ := hrel
      clear HB
      have HGw : Hid (Old w wr) := Old.trans HN.out HG.out
      have hsw : w.heap.size < wr.heap.size := by have := HG.out.size; simp at this; omega
      by_cases hlt : k < ps.length
      · have d1 : decide ((k : Int) < (ps.length : Int)) = true := by simp; omega
        have hx := HNN.out
        have d2 : decide ((k : Int) < (xss.length : Int)) = true := by simp; omega
        have hkx : k < xss.length := by omega
        have c1 : wr.cell? ⟨b, o + k, none⟩ = some (.int .i64 (ps.getD k 0)) := (HGw.out.cell (p := ⟨b, o + k, none⟩) hb).trans (HC.out k hlt)
        obtain ⟨c2, r2⟩ := HC'.out k hkx
        obtain ⟨x1, y1, e1⟩ := r2.slice
        rw [e1] at c2 r2
        have hp := pm_bd (HPM.out k hlt)
        have hm : xss.getD k [] ∈ xss := by simp [List.getD, hkx]
        have hrl := HR.out _ hm
        have c3 : wr.cell? ⟨b', o' + k, none⟩ = some (.slice x1 (xss.getD k []).length y1) := (HGw.out.cell (p := ⟨b', o' + k, none⟩) hb').trans c2
        have R3 : Hid (Row wr (.slice x1 (xss.getD k []).length y1) (xss.getD k [])) := r2.old HGw.out
        have s0 : wr.cell? ⟨w.heap.size, 0, none⟩ = some (.int .i64 N) := (HG.out.cell (p := ⟨w.heap.size, 0, none⟩) (by simp)).trans (cell_at _ _ _ _ _ rfl)
        have HY : Hid (polyB (ps.getD k 0) N (xss.getD k []) = true → rwA N ps xss (k + 1) = B) := fun h => by have := H1.out; rw [rwA_yes h] at this; exact this
        have HNo : Hid (polyB (ps.getD k 0) N (xss.getD k []) = false → false = B) := fun h => by have := H1.out; rw [rwA_no hlt h] at this; exact this
        generalize xss.getD k [] = xs at *
        generalize ps.getD k 0 = p at *
        have cp := fun W (h : Row W (.slice x1 xs.length y1) xs) => spec_poly p N 0 xs _ W h (by omega) hp
        obtain ⟨q, hq⟩ : ∃ q, polyB p N xs = q := ⟨_, rfl⟩
        rw [hq] at cp HY HNo
        have hbr : b < wr.heap.size := Nat.lt_of_lt_of_le hb HGw.out.size
        have hbr' : b' < wr.heap.size := Nat.lt_of_lt_of_le hb' HGw.out.size
        have HAS : Hid (∀ W' : World, Old wr W' → (W'.cell? ⟨w.heap.size, 0, none⟩ = some (.int .i64 N) ∧ W'.cell? ⟨b', o' + k, none⟩ = some (.slice x1 xs.length y1))) := fun W' g => ⟨(g.cell (p := ⟨w.heap.size, 0, none⟩) hsw).trans s0, (g.cell (p := ⟨b', o' + k, none⟩) hbr').trans c3⟩
        clear H1 c2 r2 e1 hm hq hx
        cases q
        · have H3 : Hid (false = B) := HNo.out rfl
          clear HY HNo
          go_wp2_with fail
          go_region_held3 (fun W' => W'.cell? ⟨w.heap.size, 0, none⟩ = some (.int .i64 N) ∧ W'.cell? ⟨b', o' + k, none⟩ = some (.slice x1 xs.length y1)) (first | with_reducible exact HAS.out _ GE.out | with_reducible exact HAS.out _ (Below.drew (Old.refl wr)) | with_reducible exact HAS.out _ (Old.refl wr)) (first
            | (go_at_call 138; refine (cp _ (R3.out.old (Below.drew (Old.refl wr)))).mono ?_; rintro e w2 ⟨rfl, ge⟩; have GE : Hid (Old wr w2) := Old.trans (Below.drew (Old.refl wr)) ge; clear ge)
            | fail)
          have HG2 : Hid (Old w w2) := Old.trans HGw.out GE.out
          go_wp2_with fail
          go_ret
          exact ⟨ret_bb H3.out, HG2.out⟩
        · have H3 : Hid (rwA N ps xss (k + 1) = B) := HY.out rfl
          clear HY HNo
          go_wp2_with fail
          go_region_held3 (fun W' => W'.cell? ⟨w.heap.size, 0, none⟩ = some (.int .i64 N) ∧ W'.cell? ⟨b', o' + k, none⟩ = some (.slice x1 xs.length y1)) (first | with_reducible exact HAS.out _ GE.out | with_reducible exact HAS.out _ (Below.drew (Old.refl wr)) | with_reducible exact HAS.out _ (Old.refl wr)) (first
            | (go_at_call 138; refine (cp _ (R3.out.old (Below.drew (Old.refl wr)))).mono ?_; rintro e w2 ⟨rfl, ge⟩; have GE : Hid (Old wr w2) := Old.trans (Below.drew (Old.refl wr)) ge; clear ge)
            | fail)
          have HG2 : Hid (Old (w.alloc (.cells #[.int .i64 N, .slice (some ⟨b, o, none⟩) ps.length cap0] 104)) w2) := Old.trans HG.out GE.out
          go_wp2_with fail
          exact ⟨⟨k + 1, by omega, by go_num, H3, HG2⟩, by simp [intOf]; omega⟩
      · have d1 : decide ((k : Int) < (ps.length : Int)) = false := by simp; omega
        have H2 : Hid (true = B) := by have := H1.out; rw [rwA_end (by omega)] at this; exact this
        clear H1
        go_wp2_with fail
        go_ret
        exact ⟨ret_bb H2.out, HGw.out⟩
  · have HB : Hid (false = rwB N ps xss) := by show _ = _; unfold rwB; rw [decide_eq_false hn]; rfl
    have dn : ((xss.length : Int) != (ps.length : Int)) = true := by simp; omega
    generalize rwB N ps xss = B at *
    clear hn
    go_enter Tryz.func104, Tryz.ntmps104
    go_wp2_with fail
    go_ret
    exact ⟨ret_bb HB.out, (Old.refl w).alloc _⟩
end Go.Proofs.YtanijpekdnkicaaGreatDoor
/- Proved: rows of rows that are made whole and filled row by row. -/
namespace Go.Proofs.YtanijpekdnkicaaGreatDoor
open Go.ChangeShapes Go.WideShapes Go.ChangeAt Go.RowKit
set_option linter.unusedVariables false
set_option linter.unusedSimpArgs false
theorem Row.recap {W : World} {a : Option Addr} {n c c' : Nat} {xs : List Int} (h : Row W (.slice a n c) xs) (h0 : xs ≠ []) : Row W (.slice a n c') xs := by
  rcases h with ⟨_, _, e, e'⟩ | ⟨b, o, cap, e, r⟩
  · exact absurd e' h0
  · simp only [Value.slice.injEq] at e
    obtain ⟨rfl, rfl, rfl⟩ := e
    exact Or.inr ⟨b, o, c', rfl, r⟩
end Go.Proofs.YtanijpekdnkicaaGreatDoor
