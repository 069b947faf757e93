/- Proved: the statement on DepthOf at every argument, in a world in which the two tables are laid. -/
import Derived.Test.YtjjdklakonfnfaaGreatDoorDe10
import Derived.Test.YtjjdklakonfnfaaGreatDoorDe22
import Derived.Test.YtjjdklakonfnfaaGreatDoorDe24
namespace Go.Proofs.YtjjdklakonfnfaaGreatDoor
open Go.ChangeShapes Go.WideShapes Go.ChangeAt Go.RowKit
open M2
set_option linter.unusedVariables false
set_option linter.unusedSimpArgs false
theorem limN_le (q T : Nat) : limN q T ≤ q := by
  unfold limN
  split
  · omega
  · exact Nat.le_trans (Nat.div_le_self _ _) (Nat.sub_le _ _)
theorem cmp_sign (a b : Nat) : (a < b → cmpN a b < 0) ∧ (b ≤ a → 0 ≤ cmpN a b) := by
  unfold cmpN
  constructor <;> intro h <;> (split <;> (try split) <;> omega)
theorem DepthOf_any (N T E : Int) (xs : List Int) (v : Value) (w : World) (hv : Row w v xs) (hl : xs.length ≤ 9223372036854775807) (hx : ∀ x ∈ xs, -9223372036854775808 ≤ x ∧ x ≤ 9223372036854775807) (hP : PrsW w) (hT : TabW w) :
    Calls Tryz.prog 3 #[.agg #[.int .i64 N, .int .i64 T, .int .i64 E, v]] w fun e w' => e = .returned (.bool true) ∧ Old w w' := by
  obtain ⟨a0, c0, rfl⟩ := hv.slice
  have bnd : ∀ {A : Prop}, ¬ leftN 1048576 xs.length < 0 → (xs.length ≤ 1048576 → A) → A := fun h1 k => by
    obtain ⟨q1, q2, q3⟩ := leftN_ok h1 (by omega)
    exact k (by omega)
  obtain ⟨q, hq⟩ : ∃ q, q = prodN (xs.map Int.toNat) := ⟨_, rfl⟩
  obtain ⟨ds, hds⟩ : ∃ ds, ds = (dgS xs xs.length).toNat := ⟨_, rfl⟩
  obtain ⟨L, hL⟩ : ∃ L, L = limN q T.toNat := ⟨_, rfl⟩
  have hLq : L ≤ q := hL ▸ limN_le q _
  obtain ⟨dw, hdw⟩ : ∃ dw : Nat → Nat, dw = dwN q N.toNat T.toNat E.toNat ds := ⟨_, rfl⟩
  obtain ⟨dv, hdv⟩ : ∃ dv : Nat → Nat, dv = dvN q N.toNat T.toNat E.toNat ds := ⟨_, rfl⟩
  obtain ⟨m, hm, hm1, hm2⟩ := ex_stop (fun k => decide (dw k < L)) 21
  have hm1' : ∀ k, k < m → dw k < L := fun k h => by simpa using hm1 k h
  have hm2' : m < 21 → L ≤ dw m := fun h => by simpa using hm2 h
  obtain ⟨s0, s1, s2⟩ := stop_same q N.toNat T.toNat E.toNat ds L m hLq hm (by rw [← hdw]; exact hm1') (by rw [← hdw]; exact hm2')
  rw [← hdv] at s0 s1 s2
  have hdl : ∀ k, dw k ≤ q := fun k => hdw ▸ dw_le q _ _ _ ds k
  have key := dw_dv q N.toNat T.toNat E.toNat ds L hLq
  rw [← hdw, ← hdv] at key
  obtain ⟨R, ok, hy, hn⟩ : ∃ (R : Int) (ok : Bool), (prB N T E xs = true → R = ((m - 1 : Nat) : Int) ∧ ok = true) ∧ (prB N T E xs = false → R = 0 ∧ ok = false) := by
    cases h : prB N T E xs
    · exact ⟨0, false, (fun h => by cases h), (fun _ => ⟨rfl, rfl⟩)⟩
    · exact ⟨_, true, (fun _ => ⟨rfl, rfl⟩), (fun h => by cases h)⟩
  refine law9_DepthOf w N T E xs.length a0 c0 R ok (leftN 1048576 xs.length)
    (fun W g => kp_sz N T E a0 xs.length c0 1048576 W hl (by omega) (by omega))
    (XP N T E xs) (far_XP N T E xs) shape_XP (fun h0 W g => bnd h0 fun h3 => kp_to N T E xs _ W (hv.old g) h3) (fun h0 W lo hi g lo' hi' g' k k' => bnd h0 fun h3 => kp_eq N T E xs W lo hi g lo' hi' g' k k' (by omega))
    (fun h0 W lo hi g k p => ?_) (fun h0 W lo hi g k p => ?_)
  · obtain ⟨a, c, rfl, o, f⟩ := k
    have KB := fun W' (q' : Old W W') => spec_goodParams N T E xs _ W' (o.row.old q') f hl hx
    cases hB : prB N T E xs
    · obtain ⟨rfl, rfl⟩ := hn hB
      rw [hB] at KB
      exact spec_DepthOf_no N T E a xs.length c W KB
    · obtain ⟨rfl, rfl⟩ := hy hB
      rw [hB] at KB
      obtain ⟨Nn, Tn, En, P, rfl, rfl, rfl, hz, hb, hN, hTn, hE, hPn, h0', hlx, hpx⟩ := prB_nat hB
      obtain ⟨hd1, hd2⟩ := dg_ds hlx.2 hpx
      rw [← hds] at hd1 hd2
      rw [hPn] at hq
      have hcq : cnt q ≤ 7 := hq ▸ hb.cnt
      have hcv : ∀ k, dv k < L → cnt (dv k) ≤ 7 := fun k h => Nat.le_trans (cnt_mono (by omega)) hcq
      have e1 : (Nn : Int).toNat = Nn := rfl
      have e2 : (Tn : Int).toNat = Tn := rfl
      have e3 : (En : Int).toNat = En := rfl
      rw [e1, e2, e3] at hdv
      rw [e2] at hL
      have hstep : ∀ k, dv (k + 1) = mulM q Nn Tn (dv k) (dv k) + Tn * Nn * En * ds := fun k => by rw [hdv]; rfl
      have hsb : cnt (Tn * Nn * En * ds) ≤ 10 := by
        have g1 : Tn * Nn ≤ 65536 * 16 := Nat.mul_le_mul hTn.2 hN.2
        have g2 : Tn * Nn * En ≤ 65536 * 16 * 16 := Nat.mul_le_mul g1 hE.2
        have g3 : Tn * Nn * En * ds ≤ 65536 * 16 * 16 * 1610612736 := Nat.mul_le_mul g2 hd2
        exact Nat.le_trans (cnt_w (by omega)) (by omega)
      have hc2 : ∀ k, (∀ j, j < k → dv j < L) → cnt (dv k) ≤ 1000 := fun k h => by
        cases k with
        | zero =>
          have g1 := (tE_bd hN hTn hE).2
          have g2 := plN_bd (q := q) hTn
          rw [hdv]
          exact Nat.le_trans (cnt_w (n := plN q Tn + Tn * En * (2 * Nn + 1)) (by omega)) (by omega)
        | succ k =>
          rw [hstep]
          exact Nat.le_trans (cnt_addL (k := 60) (mulM_cnt2 hN hTn (hcv k (h k (by omega)))) (by omega)) (by omega)
      have hrow : Row W (.slice a xs.length c) (toZ P) := by rw [← hz]; exact o.row
      refine spec_DepthOf_yes Nn Tn En a xs.length c L dv (fun k => mulM q Nn Tn (dv k) (dv k)) W KB (fun W' g => ?_) (fun W' g => ?_) (fun k hk hj W' v u h1 h2 => ?_) (fun k hk hlt W' v g h1 => ?_) (fun k hk hlt W' v g h1 => ?_) (m - 1) s0 s1 s2
      · rw [hL, hq]
        exact l11Limit_n Nn Tn En P a xs.length c W' (hrow.old g) hb hTn
      · rw [hdv, show dvN q Nn Tn En ds 0 = plN q Tn + Tn * En * (2 * Nn + 1) from rfl, hq]
        exact l11Fresh_n Nn Tn En P a xs.length c W' (hrow.old g) hb hN hTn hE
      · exact cmp_n (dv k) L v u W' h1 h2 (hc2 k hj) (Nat.le_trans (cnt_mono hLq) (by omega))
      · have hz := hcv k hlt
        rw [hq]
        exact l11Mul_n Nn Tn En P a xs.length c (dv k) (dv k) v v W' (hrow.old g) hb h0' hN hTn h1 h1 (by omega) (by omega)
      · have hz := mulM_cnt2 (q := q) hN hTn (hcv k hlt)
        rw [hstep]
        rcases o.row with ⟨_, _, _, e'⟩ | ⟨b2, o2, cap2, e, hb2, h02, hc3⟩
        · rw [e'] at hlx
          simp at hlx
        · simp only [Value.slice.injEq] at e
          obtain ⟨rfl, _, rfl⟩ := e
          exact l11Switch_n Nn Tn En xs b2 o2 c _ ds v W' (Nat.lt_of_lt_of_le hb2 g.size) (fun j hj => (g.cell (p := ⟨b2, o2 + j, none⟩) hb2).trans (hc3 j hj)) hlx hpx hN hTn hE hd1 hd2 h1 (by omega)
  · obtain ⟨a, c, rfl, o, f⟩ := k
    have fac : prB N T E xs = true → ∃ (Nn Tn En : Nat), N = Nn ∧ T = Tn ∧ E = En ∧ cnt q ≤ 7 ∧ 0 < q ∧ (2 ≤ Nn ∧ Nn ≤ 16) ∧ (2 ≤ Tn ∧ Tn ≤ 65536) ∧ (1 ≤ En ∧ En ≤ 16) ∧ (1 ≤ xs.length ∧ xs.length ≤ 6) ∧ (∀ k, k < xs.length → 2 ≤ xs.getD k 0 ∧ xs.getD k 0 ≤ 268435456) ∧ dw 0 = freshN q Nn Tn En ∧ (∀ k, dw (k + 1) = swtN q Nn Tn En ds (prdN q Nn Tn (dw k) (dw k))) ∧ L = limN q Tn := fun hB => by
      obtain ⟨Nn, Tn, En, P, rfl, rfl, rfl, hz, hb, hN, hTn, hE, hPn, h0', hlx, hpx⟩ := prB_nat hB
      rw [hPn] at hq
      exact ⟨Nn, Tn, En, rfl, rfl, rfl, hq ▸ hb.cnt, hq ▸ h0', hN, hTn, hE, hlx, hpx, hdw ▸ rfl, fun k => hdw ▸ rfl, hL⟩
    obtain ⟨dw', hdw'⟩ : ∃ f : Nat → Nat, f = fun k => if cnt (dw k) ≤ 7 then dw k else 0 := ⟨_, rfl⟩
    have hcap : ∀ k, cnt (dw' k) ≤ 7 := fun k => by
      rw [hdw']
      show cnt (if cnt (dw k) ≤ 7 then dw k else 0) ≤ 7
      split
      · assumption
      · decide
    have hsame : prB N T E xs = true → ∀ k, dw' k = dw k := fun hB k => by
      obtain ⟨_, _, _, _, _, _, hc, _⟩ := fac hB
      rw [hdw']
      exact if_pos (Nat.le_trans (cnt_mono (hdl k)) hc)
    obtain ⟨L', hL'⟩ : ∃ L' : Nat, L' = if cnt L ≤ 7 then L else 0 := ⟨_, rfl⟩
    have hcL : cnt L' ≤ 7 := by
      rw [hL']
      split
      · assumption
      · decide
    have hLs : prB N T E xs = true → L' = L := fun hB => by
      obtain ⟨_, _, _, _, _, _, hc, _⟩ := fac hB
      rw [hL']
      exact if_pos (Nat.le_trans (cnt_mono hLq) hc)
    refine impl_DepthOf N T E xs _ W (hP.old p) (hT.old p) o.row f hl m (szV L') (fun k => szV (dw' k)) (fun k => szV (prdN q N.toNat T.toNat (dw k) (dw k))) (fun k => cmpN (dw' k) L') (sq_v (by omega)) (fun k => sq_v (by have := hcap k; omega)) (fun _ => hm) (fun hB k hk => ?_) (fun hB hk => ?_) (fun hB k hk h21 W' => cmp_sz _ _ W' (by have := hcap k; omega) (by omega)) (fun hB W2 g al l cc q2 hr => ?_) (fun hB W2 g al l cc q2 hr => ?_) (fun hB W2 g al l cc q2 hr k hk => ?_) (fun hB W2 g al l cc q2 hr k hk => ?_) R ok (fun hB => ?_) hn
    · rw [hsame hB, hLs hB]
      exact (cmp_sign _ _).1 (hm1' k hk)
    · rw [hsame hB, hLs hB]
      exact (cmp_sign _ _).2 (hm2' hk)
    · obtain ⟨Nn, Tn, En, rfl, rfl, rfl, hc, h0', hN, hTn, hE, hlx, hpx, f0, f1, fL⟩ := fac hB
      rw [← hq] at hr
      rw [hLs hB, fL]
      exact limit_n Nn Tn En a xs.length c _ _ _ al l cc q W2 hc hr hTn
    · obtain ⟨Nn, Tn, En, rfl, rfl, rfl, hc, h0', hN, hTn, hE, hlx, hpx, f0, f1, fL⟩ := fac hB
      rw [← hq] at hr
      rw [hsame hB, f0]
      exact fresh_n Nn Tn En a xs.length c _ _ _ al l cc q W2 hc hr hN hTn hE
    · have hcd := hcap k
      obtain ⟨Nn, Tn, En, rfl, rfl, rfl, hc, h0', hN, hTn, hE, hlx, hpx, f0, f1, fL⟩ := fac hB
      rw [← hq] at hr
      rw [hsame hB] at hcd ⊢
      exact product_n Nn Tn En a xs.length c _ _ _ al l cc q (dw k) (dw k) W2 hc hr h0' hN hTn (by omega) (by omega)
    · have hcd := hcap k
      obtain ⟨Nn, Tn, En, rfl, rfl, rfl, hc, h0', hN, hTn, hE, hlx, hpx, f0, f1, fL⟩ := fac hB
      rw [← hq] at hr
      rw [hsame hB, f1, hds]
      exact switched_n Nn Tn En a c _ _ _ al l cc xs q (prdN q Nn Tn (dw k) (dw k)) W2 hc hr (o.row.old q2) hlx hpx hN hTn hE (Nat.le_trans (cnt_mono (show prdN q Nn Tn (dw k) (dw k) ≤ q from cutN_le)) (by omega))
    · obtain ⟨h1, h2⟩ := hy hB
      refine ⟨?_, h2⟩
      rw [h1]
      split <;> omega
end Go.Proofs.YtjjdklakonfnfaaGreatDoor
