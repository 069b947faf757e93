/- Proved: at any params what FnDepth asks: the depth of program and model, and the bounds step by step. -/
import Derived.Test.YtihjndakgncdaaaGreatDoorFd22
import Derived.Test.YtihjndakgncdaaaGreatDoorFd24
import Derived.Test.YtihjndakgncdaaaGreatDoorNs
import Derived.Test.YtihjndakgncdaaaGreatDoorFd10
import Derived.Test.YtihjndakgncdaaaGreatDoorFd26
import Derived.Test.YtihjndakgncdaaaGreatDoorFd29
namespace Go.Proofs.YtihjndakgncdaaaGreatDoor
open Go.ChangeShapes Go.WideShapes Go.ChangeAt Go.RowKit
open M2
set_option linter.unusedVariables false
set_option linter.unusedSimpArgs false
theorem limN_leX (q T : Nat) : limN q T ≤ q := by
  unfold limN
  split
  · omega
  · exact Nat.le_trans (Nat.div_le_self _ _) (Nat.sub_le _ _)
theorem cmp_signX (a b : Nat) : (a < b → cmpN a b < 0) ∧ (b ≤ a → 0 ≤ cmpN a b) := by
  unfold cmpN
  constructor <;> intro h <;> (split <;> (try split) <;> omega)
theorem depth_two (N T E : Int) (xs : List Int) (hl : xs.length ≤ 9223372036854775807) (hx : ∀ x ∈ xs, -9223372036854775808 ≤ x ∧ x ≤ 9223372036854775807) :
    ∃ m, m ≤ 21 ∧ (∀ k, k < m → dwN (prodN (xs.map Int.toNat)) N.toNat T.toNat E.toNat (dgS xs xs.length).toNat k < limN (prodN (xs.map Int.toNat)) T.toNat) ∧ (m < 21 → limN (prodN (xs.map Int.toNat)) T.toNat ≤ dwN (prodN (xs.map Int.toNat)) N.toNat T.toNat E.toNat (dgS xs xs.length).toNat m) ∧
      ∀ (a : Option Addr) (c : Nat) (W : World), Row W (.slice a xs.length c) xs → xs.length ≤ c → PrsW W → TabW W → ∀ (R : Int) (ok : Bool), (prB N T E xs = true → R = ((m - 1 : Nat) : Int) ∧ ok = true) → (prB N T E xs = false → R = 0 ∧ ok = false) →
        Calls Tryz.prog 6 #[.agg #[.int .i64 N, .int .i64 T, .int .i64 E, .slice a xs.length c]] W (fun e w' => e = .returned (.tuple #[.int .i64 R, .bool ok]) ∧ Old W w') ∧
        Calls Tryz.prog 5 #[.agg #[.int .i64 N, .int .i64 T, .int .i64 E, .slice a xs.length c]] W (fun e w' => e = .returned (.tuple #[.int .i64 R, .bool ok]) ∧ Old W w') := by
  obtain ⟨q, hq⟩ : ∃ q, q = prodN (xs.map Int.toNat) := ⟨_, rfl⟩
  obtain ⟨ds, hds⟩ : ∃ ds, ds = (dgS xs xs.length).toNat := ⟨_, rfl⟩
  obtain ⟨L, hL⟩ : ∃ L, L = limN q T.toNat := ⟨_, rfl⟩
  have hLq : L ≤ q := hL ▸ limN_leX q _
  obtain ⟨dw, hdw⟩ : ∃ dw : Nat → Nat, dw = dwN q N.toNat T.toNat E.toNat ds := ⟨_, rfl⟩
  obtain ⟨dv, hdv⟩ : ∃ dv : Nat → Nat, dv = dvN q N.toNat T.toNat E.toNat ds := ⟨_, rfl⟩
  obtain ⟨m, hm, hm1, hm2⟩ := ex_stop (fun k => decide (dw k < L)) 21
  have hm1' : ∀ k, k < m → dw k < L := fun k h => by simpa using hm1 k h
  have hm2' : m < 21 → L ≤ dw m := fun h => by simpa using hm2 h
  obtain ⟨s0, s1, s2⟩ := stop_same q N.toNat T.toNat E.toNat ds L m hLq hm (by rw [← hdw]; exact hm1') (by rw [← hdw]; exact hm2')
  rw [← hdv] at s0 s1 s2
  have hdl : ∀ k, dw k ≤ q := fun k => hdw ▸ dw_le q _ _ _ ds k
  have key := dw_dv q N.toNat T.toNat E.toNat ds L hLq
  rw [← hdw, ← hdv] at key
  refine ⟨m, hm, fun k hk => ?_, fun hk => ?_, fun a c W hv f hP hT R ok hy hn => ⟨?_, ?_⟩⟩
  · have := hm1' k hk
    rw [hdw, hL, hq, hds] at this
    exact this
  · have := hm2' hk
    rw [hdw, hL, hq, hds] at this
    exact this
  · have KB := fun W' (q' : Old W W') => spec_goodParams N T E xs _ W' (hv.old q') f hl hx
    cases hB : prB N T E xs
    · obtain ⟨rfl, rfl⟩ := hn hB
      rw [hB] at KB
      exact spec_DepthOf_no N T E a xs.length c W KB
    · obtain ⟨rfl, rfl⟩ := hy hB
      rw [hB] at KB
      obtain ⟨Nn, Tn, En, P, rfl, rfl, rfl, hz, hb, hN, hTn, hE, hPn, h0', hlx, hpx⟩ := prB_nat hB
      obtain ⟨hd1, hd2⟩ := dg_ds hlx.2 hpx
      rw [← hds] at hd1 hd2
      rw [hPn] at hq
      have hcq : cnt q ≤ 7 := hq ▸ hb.cnt
      have hcv : ∀ k, dv k < L → cnt (dv k) ≤ 7 := fun k h => Nat.le_trans (cnt_mono (by omega)) hcq
      have e1 : (Nn : Int).toNat = Nn := rfl
      have e2 : (Tn : Int).toNat = Tn := rfl
      have e3 : (En : Int).toNat = En := rfl
      rw [e1, e2, e3] at hdv
      rw [e2] at hL
      have hstep : ∀ k, dv (k + 1) = mulM q Nn Tn (dv k) (dv k) + Tn * Nn * En * ds := fun k => by rw [hdv]; rfl
      have hsb : cnt (Tn * Nn * En * ds) ≤ 10 := by
        have g1 : Tn * Nn ≤ 65536 * 16 := Nat.mul_le_mul hTn.2 hN.2
        have g2 : Tn * Nn * En ≤ 65536 * 16 * 16 := Nat.mul_le_mul g1 hE.2
        have g3 : Tn * Nn * En * ds ≤ 65536 * 16 * 16 * 1610612736 := Nat.mul_le_mul g2 hd2
        exact Nat.le_trans (cnt_w (by omega)) (by omega)
      have hc2 : ∀ k, (∀ j, j < k → dv j < L) → cnt (dv k) ≤ 1000 := fun k h => by
        cases k with
        | zero =>
          have g1 := (tE_bd hN hTn hE).2
          have g2 := plN_bd (q := q) hTn
          rw [hdv]
          exact Nat.le_trans (cnt_w (n := plN q Tn + Tn * En * (2 * Nn + 1)) (by omega)) (by omega)
        | succ k =>
          rw [hstep]
          exact Nat.le_trans (cnt_addL (k := 60) (mulM_cnt2 hN hTn (hcv k (h k (by omega)))) (by omega)) (by omega)
      have hrow : Row W (.slice a xs.length c) (toZ P) := by rw [← hz]; exact hv
      refine spec_DepthOf_yes Nn Tn En a xs.length c L dv (fun k => mulM q Nn Tn (dv k) (dv k)) W KB (fun W' g => ?_) (fun W' g => ?_) (fun k hk hj W' v u h1 h2 => ?_) (fun k hk hlt W' v g h1 => ?_) (fun k hk hlt W' v g h1 => ?_) (m - 1) s0 s1 s2
      · rw [hL, hq]
        exact l11Limit_n Nn Tn En P a xs.length c W' (hrow.old g) hb hTn
      · rw [hdv, show dvN q Nn Tn En ds 0 = plN q Tn + Tn * En * (2 * Nn + 1) from rfl, hq]
        exact l11Fresh_n Nn Tn En P a xs.length c W' (hrow.old g) hb hN hTn hE
      · exact cmp_n (dv k) L v u W' h1 h2 (hc2 k hj) (Nat.le_trans (cnt_mono hLq) (by omega))
      · have hz := hcv k hlt
        rw [hq]
        exact l11Mul_n Nn Tn En P a xs.length c (dv k) (dv k) v v W' (hrow.old g) hb h0' hN hTn h1 h1 (by omega) (by omega)
      · have hz := mulM_cnt2 (q := q) hN hTn (hcv k hlt)
        rw [hstep]
        rcases hv with ⟨_, _, _, e'⟩ | ⟨b2, o2, cap2, e, hb2, h02, hc3⟩
        · rw [e'] at hlx
          simp at hlx
        · simp only [Value.slice.injEq] at e
          obtain ⟨rfl, _, rfl⟩ := e
          exact l11Switch_n Nn Tn En xs b2 o2 c _ ds v W' (Nat.lt_of_lt_of_le hb2 g.size) (fun j hj => (g.cell (p := ⟨b2, o2 + j, none⟩) hb2).trans (hc3 j hj)) hlx hpx hN hTn hE hd1 hd2 h1 (by omega)
  · have fac : prB N T E xs = true → ∃ (Nn Tn En : Nat), N = Nn ∧ T = Tn ∧ E = En ∧ cnt q ≤ 7 ∧ 0 < q ∧ (2 ≤ Nn ∧ Nn ≤ 16) ∧ (2 ≤ Tn ∧ Tn ≤ 65536) ∧ (1 ≤ En ∧ En ≤ 16) ∧ (1 ≤ xs.length ∧ xs.length ≤ 6) ∧ (∀ k, k < xs.length → 2 ≤ xs.getD k 0 ∧ xs.getD k 0 ≤ 268435456) ∧ dw 0 = freshN q Nn Tn En ∧ (∀ k, dw (k + 1) = swtN q Nn Tn En ds (prdN q Nn Tn (dw k) (dw k))) ∧ L = limN q Tn := fun hB => by
      obtain ⟨Nn, Tn, En, P, rfl, rfl, rfl, hz, hb, hN, hTn, hE, hPn, h0', hlx, hpx⟩ := prB_nat hB
      rw [hPn] at hq
      exact ⟨Nn, Tn, En, rfl, rfl, rfl, hq ▸ hb.cnt, hq ▸ h0', hN, hTn, hE, hlx, hpx, hdw ▸ rfl, fun k => hdw ▸ rfl, hL⟩
    obtain ⟨dw', hdw'⟩ : ∃ f : Nat → Nat, f = fun k => if cnt (dw k) ≤ 7 then dw k else 0 := ⟨_, rfl⟩
    have hcap : ∀ k, cnt (dw' k) ≤ 7 := fun k => by
      rw [hdw']
      show cnt (if cnt (dw k) ≤ 7 then dw k else 0) ≤ 7
      split
      · assumption
      · decide
    have hsame : prB N T E xs = true → ∀ k, dw' k = dw k := fun hB k => by
      obtain ⟨_, _, _, _, _, _, hc, _⟩ := fac hB
      rw [hdw']
      exact if_pos (Nat.le_trans (cnt_mono (hdl k)) hc)
    obtain ⟨L', hL'⟩ : ∃ L' : Nat, L' = if cnt L ≤ 7 then L else 0 := ⟨_, rfl⟩
    have hcL : cnt L' ≤ 7 := by
      rw [hL']
      split
      · assumption
      · decide
    have hLs : prB N T E xs = true → L' = L := fun hB => by
      obtain ⟨_, _, _, _, _, _, hc, _⟩ := fac hB
      rw [hL']
      exact if_pos (Nat.le_trans (cnt_mono hLq) hc)
    refine impl_DepthOf N T E xs _ W hP hT hv f hl m (szV L') (fun k => szV (dw' k)) (fun k => szV (prdN q N.toNat T.toNat (dw k) (dw k))) (fun k => cmpN (dw' k) L') (sq_v (by omega)) (fun k => sq_v (by have := hcap k; omega)) (fun _ => hm) (fun hB k hk => ?_) (fun hB hk => ?_) (fun hB k hk h21 W' => cmp_sz _ _ W' (by have := hcap k; omega) (by omega)) (fun hB W2 g al l cc q2 hr => ?_) (fun hB W2 g al l cc q2 hr => ?_) (fun hB W2 g al l cc q2 hr k hk => ?_) (fun hB W2 g al l cc q2 hr k hk => ?_) R ok (fun hB => ?_) hn
    · rw [hsame hB, hLs hB]
      exact (cmp_signX _ _).1 (hm1' k hk)
    · rw [hsame hB, hLs hB]
      exact (cmp_signX _ _).2 (hm2' hk)
    · obtain ⟨Nn, Tn, En, rfl, rfl, rfl, hc, h0', hN, hTn, hE, hlx, hpx, f0, f1, fL⟩ := fac hB
      rw [← hq] at hr
      rw [hLs hB, fL]
      exact limit_n Nn Tn En a xs.length c _ _ _ al l cc q W2 hc hr hTn
    · obtain ⟨Nn, Tn, En, rfl, rfl, rfl, hc, h0', hN, hTn, hE, hlx, hpx, f0, f1, fL⟩ := fac hB
      rw [← hq] at hr
      rw [hsame hB, f0]
      exact fresh_n Nn Tn En a xs.length c _ _ _ al l cc q W2 hc hr hN hTn hE
    · have hcd := hcap k
      obtain ⟨Nn, Tn, En, rfl, rfl, rfl, hc, h0', hN, hTn, hE, hlx, hpx, f0, f1, fL⟩ := fac hB
      rw [← hq] at hr
      rw [hsame hB] at hcd ⊢
      exact product_n Nn Tn En a xs.length c _ _ _ al l cc q (dw k) (dw k) W2 hc hr h0' hN hTn (by omega) (by omega)
    · have hcd := hcap k
      obtain ⟨Nn, Tn, En, rfl, rfl, rfl, hc, h0', hN, hTn, hE, hlx, hpx, f0, f1, fL⟩ := fac hB
      rw [← hq] at hr
      rw [hsame hB, f1, hds]
      exact switched_n Nn Tn En a c _ _ _ al l cc xs q (prdN q Nn Tn (dw k) (dw k)) W2 hc hr (hv.old q2) hlx hpx hN hTn hE (Nat.le_trans (cnt_mono (show prdN q Nn Tn (dw k) (dw k) ≤ q from cutN_le)) (by omega))
    · obtain ⟨h1, h2⟩ := hy hB
      refine ⟨?_, h2⟩
      rw [h1]
      split <;> omega
theorem dw_mono (q N T E ds k : Nat) (hN : 2 ≤ N ∧ N ≤ 16) (hT : 2 ≤ T ∧ T ≤ 65536) : dwN q N T E ds k ≤ dwN q N T E ds (k + 1) := by
  have h1 := dw_le q N T E ds k
  have h2 : dwN q N T E ds k ≤ mulM q N T (dwN q N T E ds k) (dwN q N T E ds k) := by
    generalize dwN q N T E ds k = a
    unfold mulM
    have : 1 * a ≤ N * oftN N T * (a + a) := Nat.mul_le_mul (Nat.mul_pos (by omega) (by unfold oftN; omega)) (by omega)
    generalize N * oftN N T * (a + a) = z at *
    generalize N * (a * a) / q = z2 at *
    omega
  show _ ≤ cutN q (prdN q N T (dwN q N T E ds k) (dwN q N T E ds k) + T * N * E * ds)
  rw [prd_mul]
  generalize mulM q N T (dwN q N T E ds k) (dwN q N T E ds k) = M at *
  generalize dwN q N T E ds k = a at *
  generalize T * N * E * ds = s
  unfold cutN
  split <;> split <;> omega
theorem bdB_dig {q n : Nat} (hc : cnt n ≤ 40) (hq : n ≤ q) : bdB q false (toI (dig n)) = true := by
  unfold bdB
  rw [decide_eq_true (dig_good11 hc), nat_toI11, val_dig]
  have : n ≤ q * q := by
    rcases Nat.eq_zero_or_pos q with h | h
    · omega
    · exact Nat.le_trans hq (Nat.le_mul_of_pos_left q h)
  rw [decide_eq_true this]
  rfl
theorem whA_D {D : List Nat} {W : World} {e : Ending} {w' : World} (h : WhA D true W e w') : WhD D W e w' := by
  obtain ⟨v', e1, g, o⟩ := h
  obtain ⟨a, c, rfl⟩ := (Own.row o).slice
  exact ⟨a, c, e1, g, o⟩
theorem pow_LBX (k : Nat) : LB ^ k = 2 ^ (28 * k) := by
  have h : LB = 2 ^ 28 := by decide
  rw [h, ← Nat.pow_mul]
theorem lenB_digX (n : Nat) : n < 2 ^ lenB (dig n) ∧ (0 < n → 2 ^ (lenB (dig n) - 1) ≤ n) := by
  rcases Nat.eq_zero_or_pos n with h0 | h0
  · subst h0
    rw [dig_zero]
    refine ⟨?_, fun h => by omega⟩
    unfold lenB
    simp
  · have hne : dig n ≠ [] := fun h => by have := dig_nil h; omega
    have hl : 0 < (dig n).length := List.length_pos_iff.2 hne
    have hnr := dig_nrm n
    obtain ⟨k, hk⟩ : ∃ k, (dig n).length = k + 1 := ⟨(dig n).length - 1, by omega⟩
    have hv := val_dig n
    have hlast := hnr.2 hne
    have htop : (dig n).getD k 0 ≠ 0 := by
      have e : (dig n).getLast hne = (dig n).getD k 0 := by
        rw [List.getLast_eq_getElem]
        simp [List.getD, hk]
      rw [← e]
      exact hlast
    have hlt : (dig n).getD k 0 < 268435456 := hnr.1.getD k
    have hsp : val ((dig n).take k) + LB ^ k * (dig n).getD k 0 = n := by
      have h2 := val_take_succ (dig n) k
      rw [List.take_of_length_le (by omega), hv] at h2
      exact h2.symm
    have hlow : val ((dig n).take k) < LB ^ k := by
      have := val_lt (xs := (dig n).take k) (fun x hx => hnr.1 x (List.mem_of_mem_take hx))
      rwa [List.length_take, Nat.min_eq_left (by omega)] at this
    obtain ⟨b1, b2⟩ := bitLen_lt 28 ((dig n).getD k 0) (by omega) (by omega)
    obtain ⟨b3, b4⟩ := bitLen_ge 28 ((dig n).getD k 0) (by omega) (by omega) htop
    have hL : lenB (dig n) = 28 * k + Lib.bitLen ((dig n).getD k 0) := by
      unfold lenB
      rw [if_neg (by omega), hk]
      simp
    rw [hL]
    generalize (dig n).getD k 0 = t at *
    generalize Lib.bitLen t = b at *
    generalize val ((dig n).take k) = lo at *
    rw [pow_LBX] at hsp hlow
    refine ⟨?_, fun _ => ?_⟩
    · rw [Nat.pow_add]
      have h5 : 2 ^ (28 * k) * (t + 1) ≤ 2 ^ (28 * k) * 2 ^ b := Nat.mul_le_mul_left _ b2
      rw [Nat.mul_add, Nat.mul_one] at h5
      omega
    · rw [show 28 * k + b - 1 = 28 * k + (b - 1) by omega, Nat.pow_add]
      have h5 : 2 ^ (28 * k) * 2 ^ (b - 1) ≤ 2 ^ (28 * k) * t := Nat.mul_le_mul_left _ b4
      omega
theorem lenB_mono {a b : Nat} (h : a ≤ b) : lenB (dig a) ≤ lenB (dig b) := by
  rcases Nat.eq_zero_or_pos a with h0 | h0
  · subst h0
    rw [dig_zero]
    exact Nat.zero_le _
  · have h1 := (lenB_digX a).2 h0
    have h2 := (lenB_digX b).1
    apply Classical.byContradiction
    intro hn
    have h3 : 2 ^ lenB (dig b) ≤ 2 ^ (lenB (dig a) - 1) := Nat.pow_le_pow_right (by omega) (by omega)
    exact absurd (Nat.lt_of_le_of_lt (Nat.le_trans h3 (Nat.le_trans h1 h)) h2) (Nat.lt_irrefl _)
theorem fdk_any (N T E : Int) (xs : List Int) (a : Option Addr) (cp : Nat) (w1 : World) (hv : Row w1 (.slice a xs.length cp) xs) (hf : xs.length ≤ cp) (hl : xs.length ≤ 9223372036854775807) (hx : ∀ x ∈ xs, -9223372036854775808 ≤ x ∧ x ≤ 9223372036854775807) (hP : PrsW w1) (hT : TabW w1) :
    ∃ R ok L V U B, FdK w1 N T E a xs.length cp R ok L V U B := by
  obtain ⟨m, hm, hm1, hm2, KD⟩ := depth_two N T E xs hl hx
  obtain ⟨q, hq⟩ : ∃ q, q = prodN (xs.map Int.toNat) := ⟨_, rfl⟩
  obtain ⟨ds, hds⟩ : ∃ ds, ds = (dgS xs xs.length).toNat := ⟨_, rfl⟩
  obtain ⟨L, hL⟩ : ∃ L, L = limN q T.toNat := ⟨_, rfl⟩
  rw [← hq, ← hds] at hm1 hm2
  rw [← hL] at hm1 hm2
  have hLq : L ≤ q := hL ▸ limN_leX q _
  cases hB : prB N T E xs
  · exact ⟨0, false, [], fun _ => [], fun _ => [], fun _ => 0, fun W g => (KD a cp W (hv.old g) hf (hP.old g) (hT.old g) ((0 : Nat) : Int) false (fun h => by rw [hB] at h; cases h) (fun _ => ⟨rfl, rfl⟩)).2, fun W g => (KD a cp W (hv.old g) hf (hP.old g) (hT.old g) ((0 : Nat) : Int) false (fun h => by rw [hB] at h; cases h) (fun _ => ⟨rfl, rfl⟩)).1, fun _ => rfl, (fun h => by cases h), (fun h => by cases h), (fun h => by cases h), (fun h => by cases h), (fun h => by cases h), (fun h => by cases h), by omega, (fun h => by cases h)⟩
  obtain ⟨Nn, Tn, En, P, rfl, rfl, rfl, hz, hb, hN, hTn, hE, hPn, h0', hlx, hpx⟩ := prB_nat hB
  have hqq := hq
  rw [hPn] at hq
  have hcq : cnt q ≤ 7 := hq ▸ hb.cnt
  have h0q : 0 < q := hq ▸ h0'
  have e1 : (Nn : Int).toNat = Nn := rfl
  have e2 : (Tn : Int).toNat = Tn := rfl
  have e3 : (En : Int).toNat = En := rfl
  rw [e1, e2, e3] at hm1 hm2
  rw [e2] at hL
  obtain ⟨dw, hdw⟩ : ∃ dw : Nat → Nat, dw = dwN q Nn Tn En ds := ⟨_, rfl⟩
  rw [← hdw] at hm1 hm2
  have hdl : ∀ k, dw k ≤ q := fun k => hdw ▸ dw_le q _ _ _ ds k
  have hdc : ∀ k, cnt (dw k) ≤ 7 := fun k => Nat.le_trans (cnt_mono (hdl k)) hcq
  have hLc : cnt L ≤ 7 := Nat.le_trans (cnt_mono hLq) hcq
  have hmo : ∀ k, dw k ≤ dw (k + 1) := fun k => hdw ▸ dw_mono q Nn Tn En ds k hN hTn
  have f0 : dw 0 = freshN q Nn Tn En := by rw [hdw]; rfl
  have fs : ∀ k, dw (k + 1) = swtN q Nn Tn En ds (prdN q Nn Tn (dw k) (dw k)) := fun k => by rw [hdw]; rfl
  have hpl : ∀ a b, prdN q Nn Tn a b ≤ q := fun a b => cutN_le
  have hpc : ∀ a b, cnt (prdN q Nn Tn a b) ≤ 7 := fun a b => Nat.le_trans (cnt_mono (hpl a b)) hcq
  have hlD : ∀ n, cnt n ≤ 7 → (toI (dig n)).length ≤ 1048576 := fun n h => by
    rw [toI_len]
    unfold cnt at h
    omega
  have nd : ∀ n, nat (toI (dig n)) = dig n := fun n => nat_toI11 _
  have KLc : ∀ W, prB Nn Tn En xs = true → ∀ W2 g al l cc, Old W W2 → Row W2 (.slice al l cc) (toI (dig (prodN (xs.map Int.toNat)))) → Calls Tryz.prog 18 #[.agg #[.int .i64 (Nn : Int), .int .i64 (Tn : Int), .int .i64 (En : Int), .slice a xs.length cp, .slice (some ⟨g, 0, none⟩) xs.length xs.length, .bool false, .slice al l cc]] W2 fun e w' => e = .returned (.agg (szV L)) ∧ Old W2 w' := fun W _ W2 g al l cc _ hr => by
    rw [← hqq] at hr
    rw [hL]
    exact limit_n Nn Tn En a xs.length cp _ _ _ al l cc q W2 hcq hr hTn
  refine ⟨m - 1, true, dig L, fun k => dig (dw k), fun k => dig (prdN q Nn Tn (dw k) (dw k)), fun k => if 0 < ((lenB (dig L) : Nat) : Int) - ((lenB (dig (dw k)) : Nat) : Int) then ((lenB (dig L) : Nat) : Int) - ((lenB (dig (dw k)) : Nat) : Int) else 0,
    fun W g => (KD a cp W (hv.old g) hf (hP.old g) (hT.old g) ((m - 1 : Nat) : Int) true (fun _ => ⟨rfl, rfl⟩) (fun h => by rw [hB] at h; cases h)).2, fun W g => (KD a cp W (hv.old g) hf (hP.old g) (hT.old g) ((m - 1 : Nat) : Int) true (fun _ => ⟨rfl, rfl⟩) (fun h => by rw [hB] at h; cases h)).1, (fun h => by cases h), ?_, ?_, ?_, ?_, ?_, ?_, by omega, ?_⟩
  · intro _ W g
    exact (impl_NoiseLimit Nn Tn En xs _ L W (hP.old g) (hT.old g) (hv.old g) hf hl (fun _ => hLc) (KLc W) (dig L) true (fun _ => ⟨rfl, rfl⟩) (fun h => by rw [hB] at h; cases h)).mono fun e w' h => whA_D h
  · intro _ W g
    refine (impl_FreshBound Nn Tn En xs _ (dw 0) W (hP.old g) (hT.old g) (hv.old g) hf hl (fun _ => hdc 0) (fun _ W2 g2 al l cc q2 hr => ?_) (dig (dw 0)) true (fun _ => ⟨rfl, rfl⟩) (fun h => by rw [hB] at h; cases h)).mono fun e w' h => whA_D h
    rw [← hqq] at hr
    rw [f0]
    exact fresh_n Nn Tn En a xs.length cp _ _ _ al l cc q W2 hcq hr hN hTn hE
  · intro _ k hk W ra rc g hr
    refine impl_BudgetOf Nn Tn En xs _ false (toI (dig (dw k))) _ L W (hP.old g) (hT.old g) (hv.old g) hf hl hr (hlD _ (hdc k)) (fun _ => hLc) (KLc W) _ true (fun _ => ⟨by rw [nd], rfl⟩) (fun h => ?_)
    rw [hB, ← hqq, bdB_dig (by have := hdc k; omega) (hdl k)] at h
    cases h
  · intro _ k hk W ra rc g hr
    refine (impl_MulBound Nn Tn En xs _ false (toI (dig (dw k))) _ false (toI (dig (dw k))) _ (prdN q Nn Tn) W (hP.old g) (hT.old g) (hv.old g) hf hl hr (hlD _ (hdc k)) hr (hlD _ (hdc k)) (fun _ n m => hpc n m) (fun _ W2 g2 al l cc n m' q2 hr2 hn hm' => ?_) _ true (fun _ => ⟨by rw [nd, val_dig], rfl⟩) (fun h => ?_)).mono fun e w' h => whA_D h
    · rw [← hqq] at hr2
      exact product_n Nn Tn En a xs.length cp _ _ _ al l cc q n m' W2 hcq hr2 h0q hN hTn hn hm'
    · rw [hB, ← hqq, bdB_dig (by have := hdc k; omega) (hdl k)] at h
      cases h
  · intro _ k hk W ra rc g hr
    refine (impl_SwitchBound_of Nn Tn En xs a cp false ra (toI (dig (prdN q Nn Tn (dw k) (dw k)))).length rc (dig (dw (k + 1))) true W (fun W' q' => ?_)).mono fun e w' h => whA_D h
    refine boundBy_switched Nn Tn En xs _ false (toI (dig (prdN q Nn Tn (dw k) (dw k)))) _ (fun n => swtN q Nn Tn En ds n) W' (hP.old (Old.trans g q')) (hT.old (Old.trans g q')) (hv.old (Old.trans g q')) hf hl (hr.old q') (hlD _ (hpc _ _)) (fun _ n => Nat.le_trans (cnt_mono (show swtN q Nn Tn En ds n ≤ q from cutN_le)) hcq) (fun _ W2 g2 al l cc n q2 hr2 hcn => ?_) _ true (fun _ => ⟨by rw [nd, val_dig, fs], rfl⟩) (fun h => ?_)
    · rw [← hqq] at hr2
      rw [hds]
      exact switched_n Nn Tn En a cp _ _ _ al l cc xs q n W2 hcq hr2 (((hv.old g).old q').old q2) hlx hpx hN hTn hE (by omega)
    · rw [hB, ← hqq, bdB_dig (by have := hpc (dw k) (dw k); omega) (hpl _ _)] at h
      cases h
  · intro _ k hk W ra rc la lc hr hr2
    have h := impl_cmp false false (toI (dig (dw (k + 1)))) (toI (dig L)) _ _ W hr hr2 (hlD _ (hdc _)) (hlD _ hLc)
    have hlt := hm1 (k + 1) (by omega)
    have e : cmpW false false (toI (dig (dw (k + 1)))) (toI (dig L)) = -1 := by
      unfold cmpW
      rw [if_pos ⟨dig_good11 (by have := hdc (k + 1); omega), dig_good11 (by omega)⟩, nd, nd]
      show cmpI (val (dig (dw (k + 1))) : Int) (val (dig L) : Int) = -1
      rw [val_dig, val_dig]
      unfold cmpI
      rw [if_pos (by omega)]
    rw [e] at h
    exact h
  · intro _ k hk
    have := lenB_mono (hmo k)
    show (if 0 < ((lenB (dig L) : Nat) : Int) - ((lenB (dig (dw (k + 1))) : Nat) : Int) then _ else _) ≤ (if 0 < ((lenB (dig L) : Nat) : Int) - ((lenB (dig (dw k)) : Nat) : Int) then _ else _)
    split <;> split <;> omega
theorem Depth_any (w : World) (code : Value) (len : Nat) (h : BysW w code len) (hl : len ≤ 9223372036854775807) (hP : PrsW w) (hT : TabW w) :
    Calls Tryz.prog 3 #[code] w fun e w' => e = .returned (.bool true) ∧ Old w w' :=
  law_Depth w code len h hl fun hl' => (drawDepth_c w code len h hl').mono fun e w' ⟨N, T, E, a, cp, xs, he, g, h1, h2, r, hf⟩ => by
    obtain ⟨R, ok, L, V, U, B, K⟩ := fdk_any N T E xs a cp w' r hf (by omega) (fun x hx => by have := h2 x hx; unfold PrB at this; omega) (hP.old g) (hT.old g)
    exact ⟨N, T, E, a, xs.length, cp, R, ok, L, V, U, B, he, g, K⟩
end Go.Proofs.YtihjndakgncdaaaGreatDoor
