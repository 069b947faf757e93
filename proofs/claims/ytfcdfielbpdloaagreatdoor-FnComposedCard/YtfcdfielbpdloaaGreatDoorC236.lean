/- Proved: several texts in one: what each proves is said ahead of it. -/
import Derived.Test.YtfcdfielbpdloaaGreatDoorC224
import Derived.Test.YtfcdfielbpdloaaGreatDoorTab
import Derived.Test.YtfcdfielbpdloaaGreatDoorC228
import Derived.Test.YtfcdfielbpdloaaGreatDoorC203
import Derived.Test.YtfcdfielbpdloaaGreatDoorC235
import Derived.Test.YtfcdfielbpdloaaGreatDoorC222
import Derived.Test.YtfcdfielbpdloaaGreatDoorImpBits
import Derived.Test.YtfcdfielbpdloaaGreatDoorC231
/- Proved: a number that is composed has its residues, and one that has the residues of a number below half the product is that number, centred. -/
namespace Go.Proofs.YtfcdfielbpdloaaGreatDoor
open Go.ChangeShapes Go.WideShapes Go.ChangeAt Go.RowKit
open M2
set_option linter.unusedVariables false
set_option linter.unusedSimpArgs false
theorem pr_isPC {p : Nat} (hp : isP p = true) (hb : p ≤ 268435456) : F1.Pr p := by
  have hn : p ≠ 268435456 := fun e => by
    subst e
    revert hp
    decide
  exact F1.pr_of_isP p hp (by omega)
theorem inv_okC {a p : Nat} (hp : F1.Pr p) (ha : ¬ p ∣ a) : a * M1.invM a p % p = 1 := by
  rcases inv_cases a p with ⟨_, h⟩ | ⟨_, h⟩
  · exfalso
    have hf := hp.fermat ha
    have h2 := hp.1
    refine h (a ^ (p - 2) % p) (Nat.mod_lt _ (by omega)) ?_
    rw [Nat.mul_mod, Nat.mod_mod, ← Nat.mul_mod, Nat.mul_comm, ← Nat.pow_succ]
    rw [show (p - 2).succ = p - 1 by omega]
    exact hf
  · exact h
theorem prodN_cons (p : Nat) (l : List Nat) : prodN (p :: l) = p * prodN l := by
  rw [show p :: l = [p] ++ l from rfl, prodN_app]
  congr 1
  simp [prodN]
theorem not_dvd_prodC {p : Nat} (hp : F1.Pr p) : ∀ l : List Nat, (∀ q ∈ l, ¬ p ∣ q) → ¬ p ∣ prodN l
  | [], _ => fun hd => by
    have := hp.1
    have := Nat.le_of_dvd (by decide) hd
    simp [prodN] at this
    omega
  | q :: l, h => fun hd => by
    rw [prodN_cons] at hd
    rcases hp.euclid hd with h1 | h1
    · exact h q (List.mem_cons_self ..) h1
    · exact not_dvd_prodC hp l (fun x hx => h x (List.mem_cons_of_mem _ hx)) h1
theorem dvd_prod {q : Nat} : ∀ l : List Nat, q ∈ l → q ∣ prodN l
  | [], h => by cases h
  | p :: l, h => by
    rw [prodN_cons]
    rcases List.mem_cons.1 h with h1 | h1
    · rw [h1]; exact Nat.dvd_mul_right _ _
    · exact Nat.dvd_trans (dvd_prod l h1) (Nat.dvd_mul_left _ _)
structure Dp (ps : List Nat) : Prop where
  pr : ∀ q ∈ ps, F1.Pr q
  ne : ∀ i j, i < ps.length → j < ps.length → i ≠ j → ps.getD i 0 ≠ ps.getD j 0
theorem dp_of {ps : List Nat} (h : basB (toZ ps) = true) : Dp ps := by
  simp only [basB, Bool.and_eq_true] at h
  have key : ∀ k, k < ps.length → F1.Pr (ps.getD k 0) ∧ ∀ j, j < k → ps.getD j 0 ≠ ps.getD k 0 := fun k hk => by
    have h5 := of_decide_eq_true h.2 k (by rw [toZ_len]; exact hk) (Nat.zero_le _)
    simp only [gbAt, Bool.and_eq_true, pmB, Bool.not_eq_true'] at h5
    have e2 : (toZ ps).getD k 0 = ((ps.getD k 0 : Nat) : Int) := by simp [toZ, List.getD, hk]
    rw [e2] at h5
    obtain ⟨⟨h6, h7⟩, h8⟩ := h5
    have hb := (modB_yes h6).2
    refine ⟨pr_isPC (by simpa using h7) (by omega), fun j hj e => ?_⟩
    have hc : ((toZ ps).take k).contains ((ps.getD k 0 : Nat) : Int) = true := by
      rw [List.contains_iff_mem]
      have hm : (toZ ps)[j]'(by rw [toZ_len]; omega) = ((ps.getD k 0 : Nat) : Int) := by rw [← e]; simp [toZ, List.getD, show j < ps.length by omega]
      rw [← hm]
      exact List.mem_take_iff_getElem.2 ⟨j, by rw [toZ_len]; omega, rfl⟩
    rw [hc] at h8
    cases h8
  refine ⟨fun q hq => ?_, fun i j hi hj hij e => ?_⟩
  · obtain ⟨k, hk, e⟩ := List.getElem_of_mem hq
    have := (key k hk).1
    rwa [show ps.getD k 0 = q by simp [List.getD, hk, e]] at this
  · rcases Nat.lt_or_gt_of_ne hij with h1 | h1
    · exact (key j hj).2 i h1 e
    · exact (key i hi).2 j h1 e.symm
theorem mem_oth {ps : List Nat} {i j : Nat} (hj : j < ps.length) (hij : i ≠ j) : ps.getD j 0 ∈ oth ps i := by
  unfold oth
  have e : ps.getD j 0 = ps[j] := by simp [List.getD, hj]
  rw [e]
  rcases Nat.lt_or_gt_of_ne hij with h1 | h1
  · refine List.mem_append.2 (Or.inr ?_)
    exact List.mem_drop_iff_getElem.2 ⟨j - (i + 1), by omega, by congr 1; omega⟩
  · refine List.mem_append.2 (Or.inl ?_)
    exact List.mem_take_iff_getElem.2 ⟨j, by omega, rfl⟩
theorem oth_at {ps : List Nat} {i q : Nat} (hi : i < ps.length) (h : q ∈ oth ps i) : ∃ j, j < ps.length ∧ j ≠ i ∧ ps.getD j 0 = q := by
  unfold oth at h
  rcases List.mem_append.1 h with h1 | h1
  · obtain ⟨j, hj, e⟩ := List.mem_take_iff_getElem.1 h1
    exact ⟨j, by omega, by omega, by simp [List.getD, show j < ps.length by omega, e]⟩
  · obtain ⟨j, hj, e⟩ := List.mem_drop_iff_getElem.1 h1
    exact ⟨i + 1 + j, by omega, by omega, by simp [List.getD, show i + 1 + j < ps.length by omega, e]⟩
theorem oth_not {ps : List Nat} (hd : Dp ps) {i : Nat} (hi : i < ps.length) : ¬ ps.getD i 0 ∣ prodN (oth ps i) := by
  have hm : ps.getD i 0 ∈ ps := by simp [List.getD, hi]
  refine not_dvd_prodC (hd.pr _ hm) _ (fun q hq hdv => ?_)
  obtain ⟨j, hj, hji, rfl⟩ := oth_at hi hq
  have hmj : ps.getD j 0 ∈ ps := by simp [List.getD, hj]
  rcases (hd.pr _ hmj).2 _ hdv with h | h
  · have := (hd.pr _ hm).1
    omega
  · exact hd.ne i j hi hj (fun e => hji e.symm) h
theorem sum_mod {rs ps : List Nat} (hd : Dp ps) {i : Nat} (hi : i < ps.length) : ∀ k, k ≤ ps.length → sumN rs ps k % ps.getD i 0 = if i < k then prodN (oth ps i) * yN rs ps i % ps.getD i 0 else 0
  | 0, _ => by simp [sumN]
  | k + 1, h => by
    have ih := sum_mod (rs := rs) hd hi k (by omega)
    rw [sumN, Nat.add_mod, ih]
    by_cases hk : k = i
    · subst hk
      rw [if_neg (by omega), if_pos (by omega), Nat.zero_add, Nat.mod_mod]
    · have h0 : prodN (oth ps k) * yN rs ps k % ps.getD i 0 = 0 := Nat.mod_eq_zero_of_dvd (Nat.dvd_trans (dvd_prod _ (mem_oth hi hk)) (Nat.dvd_mul_right _ _))
      rw [h0, Nat.add_zero]
      by_cases h1 : i < k
      · rw [if_pos h1, if_pos (by omega), Nat.mod_mod]
      · rw [if_neg h1, if_neg (by omega), Nat.zero_mod]
theorem co_res {rs ps : List Nat} (hR : Res rs ps) (hd : Dp ps) {i : Nat} (hi : i < ps.length) : coN rs ps % ps.getD i 0 = rs.getD i 0 := by
  have hm : ps.getD i 0 ∈ ps := by simp [List.getD, hi]
  have hp := hd.pr _ hm
  have hlt := hR.lt i hi
  unfold coN
  rw [Nat.mod_mod_of_dvd _ (dvd_prod ps hm), sum_mod hd hi ps.length (Nat.le_refl _), if_pos hi]
  have hinv := inv_okC (a := prodN (oth ps i) % ps.getD i 0) hp (fun h => oth_not hd hi ((Nat.dvd_mod_iff (Nat.dvd_refl _)).1 h))
  unfold yN ivN
  rw [pm_mod (ps.getD i 0) (oth ps i) hp.1]
  generalize prodN (oth ps i) = O at *
  generalize ps.getD i 0 = p at *
  generalize rs.getD i 0 = r at *
  generalize M1.invM (O % p) p = I at *
  have e1 : O * I % p = 1 := by rw [← hinv, Nat.mul_mod O I, Nat.mul_mod (O % p) I, Nat.mod_mod]
  rw [Nat.mul_mod, Nat.mod_mod, ← Nat.mul_mod, ← Nat.mul_assoc, Nat.mul_comm O r, Nat.mul_assoc, Nat.mul_mod, e1, Nat.mul_one, Nat.mod_mod]
  exact Nat.mod_eq_of_lt hlt
theorem all_dvd {D : Nat} : ∀ {ps : List Nat}, Dp ps → (∀ q ∈ ps, q ∣ D) → prodN ps ∣ D
  | [], _, _ => by simp [prodN]
  | p :: l, hd, h => by
    rw [prodN_cons]
    have hdl : Dp l := ⟨fun q hq => hd.pr q (List.mem_cons_of_mem _ hq), fun i j hi hj hij => by
      have := hd.ne (i + 1) (j + 1) (by simp; omega) (by simp; omega) (by omega)
      simpa [List.getD] using this⟩
    have ih := all_dvd hdl (fun q hq => h q (List.mem_cons_of_mem _ hq))
    have hp := hd.pr p (List.mem_cons_self ..)
    have hnd : ¬ p ∣ prodN l := not_dvd_prodC hp l (fun q hq hdv => by
      obtain ⟨k, hk, e⟩ := List.getElem_of_mem hq
      rcases (hdl.pr q hq).2 p hdv with h1 | h1
      · have := hp.1
        omega
      · have := hd.ne 0 (k + 1) (by simp) (by simp; omega) (by omega)
        simp [List.getD, hk, e] at this
        exact this h1)
    exact Nat.Coprime.mul_dvd_of_dvd_of_dvd (hp.cop hnd) (h p (List.mem_cons_self ..)) ih
def cenC (rs ps : List Nat) : Int := if coN rs ps * 2 < prodN ps then (coN rs ps : Int) else -((prodN ps - coN rs ps : Nat) : Int)
theorem cen_back {rs ps : List Nat} (hb : Bas ps) (hd : Dp ps) (hR : Res rs ps) (X : Int) (hX : ∀ i, i < ps.length → ((rs.getD i 0 : Nat) : Int) = X % ((ps.getD i 0 : Nat) : Int)) (h2 : 2 * X.natAbs < prodN ps) : cenC rs ps = X := by
  have hq0 := prodN_posF hb
  have hcl : coN rs ps < prodN ps := Nat.mod_lt _ hq0
  have hdv : ((prodN ps : Nat) : Int) ∣ (coN rs ps : Int) - X := by
    have hn : prodN ps ∣ ((coN rs ps : Int) - X).natAbs := all_dvd hd (fun q hq => by
      obtain ⟨k, hk, e⟩ := List.getElem_of_mem hq
      have e2 : ps.getD k 0 = q := by simp [List.getD, hk, e]
      have h1 := co_res hR hd hk
      have h3 := hX k hk
      rw [e2] at h1 h3
      have h4 : (coN rs ps : Int) % (q : Int) = X % (q : Int) := by rw [← h3, ← h1, Int.natCast_emod]
      have h5 : (q : Int) ∣ (coN rs ps : Int) - X := Int.dvd_of_emod_eq_zero (by rw [Int.sub_emod, h4, Int.sub_self, Int.zero_emod])
      exact Int.ofNat_dvd_left.1 h5)
    exact Int.ofNat_dvd_left.2 hn
  obtain ⟨t, ht⟩ := hdv
  unfold cenC
  generalize prodN ps = Q at *
  generalize coN rs ps = c at *
  have ht2 : t = 0 ∨ t = 1 := by
    rcases Int.lt_trichotomy t 0 with h | h | h
    · exfalso
      have : (Q : Int) * t ≤ (Q : Int) * (-1) := Int.mul_le_mul_of_nonneg_left (by omega) (by omega)
      omega
    · exact Or.inl h
    · refine Or.inr ?_
      rcases Int.lt_or_le 1 t with h1 | h1
      · exfalso
        have : (Q : Int) * 2 ≤ (Q : Int) * t := Int.mul_le_mul_of_nonneg_left (by omega) (by omega)
        omega
      · omega
  rcases ht2 with rfl | rfl
  · rw [Int.mul_zero] at ht
    rw [if_pos (by omega)]
    omega
  · rw [Int.mul_one] at ht
    rw [if_neg (by omega)]
    omega
end Go.Proofs.YtfcdfielbpdloaaGreatDoor
/- Proved: what the program and the model tell of what is composed, centred and taken by residues, at every argument, in letters. -/
namespace Go.Proofs.YtfcdfielbpdloaaGreatDoor
open Go.ChangeShapes Go.WideShapes Go.ChangeAt Go.RowKit
open M2
set_option linter.unusedVariables false
set_option linter.unusedSimpArgs false
theorem pow_LB (k : Nat) : LB ^ k = 2 ^ (28 * k) := by
  have h : LB = 2 ^ 28 := by decide
  rw [h, ← Nat.pow_mul]
theorem lenB_dig (n : Nat) : n < 2 ^ lenB (dig n) ∧ (0 < n → 2 ^ (lenB (dig n) - 1) ≤ n) := by
  rcases Nat.eq_zero_or_pos n with h0 | h0
  · subst h0
    rw [dig_zero]
    refine ⟨?_, fun h => by omega⟩
    unfold lenB
    simp
  · have hne : dig n ≠ [] := fun h => by have := dig_nil h; omega
    have hl : 0 < (dig n).length := List.length_pos_iff.2 hne
    have hnr := dig_nrm n
    obtain ⟨k, hk⟩ : ∃ k, (dig n).length = k + 1 := ⟨(dig n).length - 1, by omega⟩
    have hv := val_dig n
    have hlast := hnr.2 hne
    have htop : (dig n).getD k 0 ≠ 0 := by
      have e : (dig n).getLast hne = (dig n).getD k 0 := by
        rw [List.getLast_eq_getElem]
        simp [List.getD, hk]
      rw [← e]
      exact hlast
    have hlt : (dig n).getD k 0 < 268435456 := hnr.1.getD k
    have hsp : val ((dig n).take k) + LB ^ k * (dig n).getD k 0 = n := by
      have h2 := val_take_succ (dig n) k
      rw [List.take_of_length_le (by omega), hv] at h2
      exact h2.symm
    have hlow : val ((dig n).take k) < LB ^ k := by
      have := val_lt (xs := (dig n).take k) (fun x hx => hnr.1 x (List.mem_of_mem_take hx))
      rwa [List.length_take, Nat.min_eq_left (by omega)] at this
    obtain ⟨b1, b2⟩ := bitLen_lt 28 ((dig n).getD k 0) (by omega) (by omega)
    obtain ⟨b3, b4⟩ := bitLen_ge 28 ((dig n).getD k 0) (by omega) (by omega) htop
    have hL : lenB (dig n) = 28 * k + Lib.bitLen ((dig n).getD k 0) := by
      unfold lenB
      rw [if_neg (by omega), hk]
      simp
    rw [hL]
    generalize (dig n).getD k 0 = t at *
    generalize Lib.bitLen t = b at *
    generalize val ((dig n).take k) = lo at *
    rw [pow_LB] at hsp hlow
    refine ⟨?_, fun _ => ?_⟩
    · rw [Nat.pow_add]
      have h5 : 2 ^ (28 * k) * (t + 1) ≤ 2 ^ (28 * k) * 2 ^ b := Nat.mul_le_mul_left _ b2
      rw [Nat.mul_add, Nat.mul_one] at h5
      omega
    · rw [show 28 * k + b - 1 = 28 * k + (b - 1) by omega, Nat.pow_add]
      have h5 : 2 ^ (28 * k) * 2 ^ (b - 1) ≤ 2 ^ (28 * k) * t := Nat.mul_le_mul_left _ b4
      omega
theorem half_of {a q : Nat} (h : lenB (dig a) + 1 < lenB (dig q)) : 2 * a < q := by
  obtain ⟨h1, _⟩ := lenB_dig a
  rcases Nat.eq_zero_or_pos q with h0 | h0
  · subst h0
    rw [dig_zero] at h
    unfold lenB at h
    simp at h
  · have h2 := (lenB_dig q).2 h0
    have h3 : 2 ^ (lenB (dig a) + 1) ≤ 2 ^ (lenB (dig q) - 1) := Nat.pow_le_pow_right (by omega) (by omega)
    rw [Nat.pow_succ] at h3
    omega
theorem cen_svC {rs ps : List Nat} (hb : Bas ps) : sv (decide (prodN ps ≤ coN rs ps * 2)) (dig (if coN rs ps * 2 < prodN ps then coN rs ps else prodN ps - coN rs ps)) = cenC rs ps ∧ Gw (decide (prodN ps ≤ coN rs ps * 2)) (dig (if coN rs ps * 2 < prodN ps then coN rs ps else prodN ps - coN rs ps)) ∧ (dig (if coN rs ps * 2 < prodN ps then coN rs ps else prodN ps - coN rs ps)).length ≤ 10 := by
  have hq0 := prodN_posF hb
  have hcl : coN rs ps < prodN ps := Nat.mod_lt _ hq0
  have hcp : cnt (prodN ps) ≤ 7 := by
    have := prodN_cnt ps hb.hi ps.length (Nat.le_refl _)
    rw [List.take_length] at this
    have := hb.len6
    omega
  unfold cenC
  by_cases h : coN rs ps * 2 < prodN ps
  · rw [if_pos h, if_pos h, decide_eq_false (show ¬ prodN ps ≤ coN rs ps * 2 by omega)]
    refine ⟨?_, ⟨dig_nrm _, fun h => by cases h⟩, ?_⟩
    · show (val (dig (coN rs ps)) : Int) = _
      rw [val_dig]
    · have : cnt (coN rs ps) ≤ 7 := Nat.le_trans (cnt_mono (by omega)) hcp
      unfold cnt at this
      omega
  · rw [if_neg h, if_neg h, decide_eq_true (show prodN ps ≤ coN rs ps * 2 by omega)]
    refine ⟨?_, ⟨dig_nrm _, fun _ h0 => ?_⟩, ?_⟩
    · show -(val (dig (prodN ps - coN rs ps)) : Int) = _
      rw [val_dig]
    · have := dig_nil h0
      omega
    · have : cnt (prodN ps - coN rs ps) ≤ 7 := Nat.le_trans (cnt_mono (Nat.sub_le _ _)) hcp
      unfold cnt at this
      omega
theorem gw_goodC {n : Bool} {xs : List Nat} (h : Gw n xs) (hl : xs.length ≤ 40) : Good n (toI xs) := gw_good6 h.1 h.2 hl
theorem impl_centredC (rs ps : List Nat) (v u : Value) (w : World) (hP : PrsW w) (hT : TabW w) (hv : Row w v (toZ rs)) (hu : Row w u (toZ ps)) (hf : Fit u) (hR : Res rs ps) (h : basB (toZ ps) = true) (h2 : rsB (toZ rs) (toZ ps) = true) :
    Calls Tryz.prog 9 #[v, u] w (Wh w (decide (prodN ps ≤ coN rs ps * 2)) (dig (if coN rs ps * 2 < prodN ps then coN rs ps else prodN ps - coN rs ps)) true) := by
  by_cases hc : coN rs ps * 2 < prodN ps
  · rw [if_pos hc, decide_eq_false (show ¬ prodN ps ≤ coN rs ps * 2 by omega)]
    exact impl_CentredWhole_low rs ps v u w hP hT hv hu hf hR h h2 hc
  · rw [if_neg hc, decide_eq_true (show prodN ps ≤ coN rs ps * 2 by omega)]
    exact impl_CentredWhole_high rs ps v u w hP hT hv hu hf hR h h2 hc
theorem res_is {n : Bool} {ds : List Nat} {rs ps : List Nat} (hR : Res rs ps) (h : ∀ i, i < ps.length → sv n ds % ((ps.getD i 0 : Nat) : Int) = ((rs.getD i 0 : Nat) : Int)) : resL n (toI ds) ps = toZ rs := by
  unfold resL toZ
  rw [nat_toI6]
  apply List.ext_getElem
  · simp [hR.len]
  · intro i h1 h2
    simp only [List.length_map] at h1 h2
    simp only [List.getElem_map]
    have := h i h1
    simpa [List.getD, h1, h2] using this
structure CmK (zs xs : List Int) (ds : List Nat) (nb : Bool) (es : List Nat) (ok : Bool) : Prop where
  hds : ds.length ≤ 40
  hes : es.length ≤ 40
  ki : ∀ (v u : Value) (W : World), PrsW W → TabW W → Row W v zs → Row W u xs → Fit u → Calls Tryz.prog 6 #[v, u] W (Wh W false ds ok)
  ks : ∀ (v u : Value) (W : World), Row W v zs → Row W u xs → Fit u → Calls Tryz.prog 7 #[v, u] W (Wh W false ds ok)
  kr : ok = true → ∀ (x u : Value) (W : World), PrsW W → TabW W → Row W x (toI ds) → Row W u xs → Fit u → Calls Tryz.prog 8 #[.agg #[.bool false, x], u] W (Ls W zs true)
  kc : ok = true → ∀ (v u : Value) (W : World), PrsW W → TabW W → Row W v zs → Row W u xs → Fit u → Calls Tryz.prog 9 #[v, u] W (Wh W nb es true)
  kt : ok = true → ∀ (x u : Value) (W : World), PrsW W → TabW W → Row W x (toI es) → Row W u xs → Fit u → Calls Tryz.prog 8 #[.agg #[.bool nb, x], u] W (Ls W zs true)
theorem cm_all (zs xs : List Int) (hz : zs.length ≤ 100) (hx : xs.length ≤ 100) (hxb : ∀ x ∈ xs, -9223372036854775808 ≤ x ∧ x ≤ 9223372036854775807) : ∃ ds nb es ok, CmK zs xs ds nb es ok := by
  by_cases h : basB xs = true ∧ rsB zs xs = true
  · obtain ⟨ps, rfl, hb⟩ := basB_yes h.1
    obtain ⟨qs, rfl, hR⟩ := rsB_yes rfl hb h.2
    have hd := dp_of h.1
    obtain ⟨csv, cgw, clen⟩ := cen_svC (rs := qs) hb
    have hcc : (dig (coN qs ps)).length ≤ 10 := by have := coN_cnt hR; unfold cnt at this; omega
    have r1 : resL false (toI (dig (coN qs ps))) ps = toZ qs := res_is hR (fun i hi => by
      show (val (dig (coN qs ps)) : Int) % _ = _
      rw [val_dig, ← Int.natCast_emod, co_res hR hd hi])
    have r2 : resL (decide (prodN ps ≤ coN qs ps * 2)) (toI (dig (if coN qs ps * 2 < prodN ps then coN qs ps else prodN ps - coN qs ps))) ps = toZ qs := res_is hR (fun i hi => by
      rw [csv]
      have hm : ps.getD i 0 ∈ ps := by simp [List.getD, hi]
      have h1 := co_res hR hd hi
      have hcl : coN qs ps < prodN ps := Nat.mod_lt _ (prodN_posF hb)
      unfold cenC
      split
      · rw [← Int.natCast_emod, h1]
      · obtain ⟨t, ht⟩ := dvd_prod ps hm
        have e : -((prodN ps - coN qs ps : Nat) : Int) = (coN qs ps : Int) - ((ps.getD i 0 : Nat) : Int) * (t : Int) := by
          rw [Int.natCast_sub (by omega), ht, Int.natCast_mul]
          omega
        rw [e, Int.sub_mul_emod_self_left, ← Int.natCast_emod, h1])
    exact ⟨_, _, _, true, by omega, by omega, (fun v u W hp ht hv hu hf => impl_ComposeWhole_yes qs ps v u W hp ht hv hu hf hR h.1 h.2), (fun v u W hv hu hf => spec_ComposeWhole_yes qs ps v u W hv hu hf hR h.1 h.2),
      (fun _ x u W hp ht hx hu hf => by have r := impl_ResiduesOf_yes false _ ps x u W hp ht hx hu hf (by rw [toI_len]; omega) (gw_goodC ⟨dig_nrm _, fun h => by cases h⟩ (by omega)) hb h.1; rw [r1] at r; exact r),
      (fun _ v u W hp ht hv hu hf => impl_centredC qs ps v u W hp ht hv hu hf hR h.1 h.2),
      (fun _ x u W hp ht hx hu hf => by have r := impl_ResiduesOf_yes _ _ ps x u W hp ht hx hu hf (by rw [toI_len]; omega) (gw_goodC cgw (by omega)) hb h.1; rw [r2] at r; exact r)⟩
  · exact ⟨[], false, [], false, by simp, by simp, (fun v u W hp ht hv hu hf => impl_ComposeWhole_no zs xs v u W hp ht hv hu hf (by omega) h), (fun v u W hv hu hf => spec_ComposeWhole_no zs xs v u W hv hu hf (by omega) (by omega) hxb h), (fun h => by cases h), (fun h => by cases h), (fun h => by cases h)⟩
structure RsK (n : Bool) (ds xs : List Int) (L : List Int) (ok : Bool) (Q : List Nat) (b1 b2 : Int) : Prop where
  hL : L.length ≤ 10
  hQ : Q.length ≤ 40
  hb : (0 ≤ b1 ∧ b1 ≤ 100000) ∧ (0 ≤ b2 ∧ b2 ≤ 100000)
  ki : ∀ (v u : Value) (W : World), PrsW W → TabW W → Row W v ds → Row W u xs → Fit u → Calls Tryz.prog 8 #[.agg #[.bool n, v], u] W (Ls W L ok)
  ks : ∀ (v u : Value) (W : World), Row W v ds → Row W u xs → Fit u → Calls Tryz.prog 12 #[.agg #[.bool n, v], u] W (Ls W L ok)
  kp : ok = true → ∀ (u : Value) (W : World), Row W u xs → Fit u → Calls Tryz.prog 13 #[u] W (Wh W false Q true)
  k1 : ok = true → ∀ (v : Value) (W : World), Row W v ds → Calls Tryz.prog 14 #[.agg #[.bool n, v]] W fun e w' => e = .returned (.int .i64 b1) ∧ Old W w'
  k2 : ok = true → ∀ (v : Value) (W : World), Row W v (toI Q) → Calls Tryz.prog 14 #[.agg #[.bool false, v]] W fun e w' => e = .returned (.int .i64 b2) ∧ Old W w'
  kc : ok = true → b1 < b2 - 1 → toI (nat ds) = ds ∧ ∀ (v u : Value) (W : World), PrsW W → TabW W → Row W v L → Row W u xs → Fit u → Calls Tryz.prog 9 #[v, u] W (Wh W n (nat ds) true)
theorem rs_all (n : Bool) (ds xs : List Int) (hd0 : ds.length ≤ 100) (hx : xs.length ≤ 100) (hxb : ∀ x ∈ xs, -9223372036854775808 ≤ x ∧ x ≤ 9223372036854775807) : ∃ L ok Q b1 b2, RsK n ds xs L ok Q b1 b2 := by
  by_cases h : Good n ds ∧ basB xs = true
  · obtain ⟨hg, hbb⟩ := h
    obtain ⟨ps, rfl, hb⟩ := basB_yes hbb
    obtain ⟨ex, gx, lx⟩ := good_gw hg
    have hd := dp_of hbb
    have hcp : cnt (prodN ps) ≤ 7 := by
      have := prodN_cnt ps hb.hi ps.length (Nat.le_refl _)
      rw [List.take_length] at this
      have := hb.len6
      omega
    have hlq : (dig (prodN ps)).length ≤ 10 := by unfold cnt at hcp; omega
    have hQg : Good false (toI (dig (prodN ps))) := gw_goodC ⟨dig_nrm _, fun h => by cases h⟩ (by omega)
    have hll : (resL n ds ps).length ≤ 10 := by rw [resL_len]; have := hb.len6; omega
    have hbl : ∀ l : List Nat, Lim l → l.length ≤ 40 → lenB l ≤ 10000 := fun l hl hk => by
      unfold lenB
      split
      · omega
      · have := (bitLen_lt 28 (l.getD (l.length - 1) 0) (hl.getD _) (by omega)).1
        omega
    have e1 : bitsW n ds = ((lenB (nat ds) : Nat) : Int) := by unfold bitsW; rw [if_pos hg]
    have e2 : bitsW false (toI (dig (prodN ps))) = ((lenB (dig (prodN ps)) : Nat) : Int) := by unfold bitsW; rw [if_pos hQg, nat_toI6]
    have l1 := hbl (nat ds) gx.1.1 lx
    have l2 := hbl (dig (prodN ps)) (dig_lim _) (by omega)
    refine ⟨resL n ds ps, true, dig (prodN ps), ((lenB (nat ds) : Nat) : Int), ((lenB (dig (prodN ps)) : Nat) : Int), hll, by omega, ⟨⟨by omega, by omega⟩, ⟨by omega, by omega⟩⟩,
      (fun v u W hp ht hv hu hf => impl_ResiduesOf_yes n ds ps v u W hp ht hv hu hf (by omega) hg hb hbb), (fun v u W hv hu hf => spec_ResiduesOf_yes n ds ps v u W hv hu hf (by omega) hg hb hbb), (fun _ u W hu hf => spec_ProductOf_yes ps u W hu hf hb hbb),
      (fun _ v W hv => by have r := impl_bitsOf n ds v W hv (by omega); rw [e1] at r; exact r), (fun _ v W hv => by have r := impl_bitsOf false _ v W hv (by rw [toI_len]; omega); rw [e2] at r; exact r), fun _ hlt => ⟨ex, ?_⟩⟩
    obtain ⟨qs, hqs⟩ : ∃ qs : List Nat, qs = ps.map (fun p => (sv n (nat ds) % ((p : Nat) : Int)).toNat) := ⟨_, rfl⟩
    have hq0 : ∀ p ∈ ps, 0 ≤ sv n (nat ds) % ((p : Nat) : Int) ∧ sv n (nat ds) % ((p : Nat) : Int) < ((p : Nat) : Int) := fun p hp => by
      have := hb.lo p hp
      exact ⟨Int.emod_nonneg _ (by omega), Int.emod_lt_of_pos _ (by omega)⟩
    have hql : resL n ds ps = toZ qs := by
      rw [hqs]
      unfold resL toZ
      rw [List.map_map]
      refine List.map_congr_left (fun p hp => ?_)
      have := (hq0 p hp).1
      show _ = (((sv n (nat ds) % ((p : Nat) : Int)).toNat : Nat) : Int)
      omega
    have hqi : ∀ i, i < ps.length → ((qs.getD i 0 : Nat) : Int) = sv n (nat ds) % ((ps.getD i 0 : Nat) : Int) := fun i hi => by
      have hm : ps.getD i 0 ∈ ps := by simp [List.getD, hi]
      have h1 : qs.getD i 0 = (sv n (nat ds) % ((ps.getD i 0 : Nat) : Int)).toNat := by rw [hqs]; simp [List.getD, hi]
      have := (hq0 _ hm).1
      rw [h1]
      omega
    have hR : Res qs ps := ⟨hb, by rw [hqs, List.length_map], fun i hi => by
      have hm : ps.getD i 0 ∈ ps := by simp [List.getD, hi]
      have h1 := hqi i hi
      have h2 := (hq0 _ hm).2
      omega⟩
    have hrs : rsB (toZ qs) (toZ ps) = true := by
      simp only [rsB, Bool.and_eq_true, decide_eq_true_eq]
      refine ⟨by rw [toZ_len, toZ_len]; exact hR.len, ?_⟩
      unfold rsF
      refine decide_eq_true (fun i hi _ => ?_)
      rw [toZ_len] at hi
      have hm : ps.getD i 0 ∈ ps := by simp [List.getD, hi]
      have h1 := hqi i hi
      have h2 := hq0 _ hm
      have z1 : (toZ qs).getD i 0 = ((qs.getD i 0 : Nat) : Int) := by simp [toZ, List.getD, Option.map]; cases qs[i]? <;> rfl
      have z2 : (toZ ps).getD i 0 = ((ps.getD i 0 : Nat) : Int) := by simp [toZ, List.getD, Option.map]; cases ps[i]? <;> rfl
      rw [z1, z2]
      simp only [resB, Bool.and_eq_true, decide_eq_true_eq]
      omega
    have hX : (sv n (nat ds)).natAbs = val (nat ds) := by
      unfold sv
      split <;> omega
    have hh : 2 * (sv n (nat ds)).natAbs < prodN ps := by
      rw [hX]
      refine half_of ?_
      rw [dig_val gx.1]
      omega
    have hcen := cen_back hb hd hR (sv n (nat ds)) hqi hh
    obtain ⟨csv, cgw, clen⟩ := cen_svC (rs := qs) hb
    rw [hcen] at csv
    obtain ⟨f1, f2⟩ := of_sv cgw
    obtain ⟨f3, f4⟩ := of_sv gx
    rw [csv] at f1 f2
    intro v u W hp ht hv hu hf
    rw [hql] at hv
    have r := impl_centredC qs ps v u W hp ht hv hu hf hR hbb hrs
    rw [← f1, ← f2, f3, f4] at r
    exact r
  · exact ⟨[], false, [], 0, 0, by simp, by simp, by omega, (fun v u W hp ht hv hu hf => impl_ResiduesOf_no n ds xs v u W hp ht hv hu hf (by omega) (by omega) h), (fun v u W hv hu hf => spec_ResiduesOf_no n ds xs v u W hv hu hf (by omega) (by omega) hxb h), (fun h => by cases h), (fun h => by cases h), (fun h => by cases h), (fun h => by cases h)⟩
end Go.Proofs.YtfcdfielbpdloaaGreatDoor
