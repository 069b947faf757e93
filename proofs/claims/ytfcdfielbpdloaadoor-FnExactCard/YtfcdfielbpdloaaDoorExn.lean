/- Proved: what the program and the model tell of an exact conversion and of a floor, at every argument, in letters. -/
import Derived.Test.YtfcdfielbpdloaaDoorX22
import Derived.Test.YtfcdfielbpdloaaDoorX25
import Derived.Test.YtfcdfielbpdloaaDoorX27
import Derived.Test.YtfcdfielbpdloaaDoorSfl
import Derived.Test.YtfcdfielbpdloaaDoorX26
import Derived.Test.YtfcdfielbpdloaaDoorExpC
namespace Go.Proofs.YtfcdfielbpdloaaDoor
open Go.ChangeShapes Go.WideShapes Go.ChangeAt Go.RowKit
open M2
set_option linter.unusedVariables false
set_option linter.unusedSimpArgs false
structure ExK (zs xs ys : List Int) (m : Int) (nb : Bool) (ds : List Nat) (cn : Bool) (T : Int) (EL : List Int) (ok : Bool) : Prop where
  hds : ds.length ≤ 40
  hel : EL.length ≤ 10
  hT : modW nb (toI ds) m = T
  kc : ∀ (v u : Value) (W : World), Row W v zs → Row W u xs → Fit u → Calls Tryd.prog 5 #[v, u] W (Wh W nb ds cn)
  ki : ∀ (v u q : Value) (W : World), PrsW W → TabW W → Row W v zs → Row W u xs → Fit u → Row W q ys → Fit q → Calls Tryd.prog 7 #[v, u, .int .i64 m, .int .i64 T, q] W (Ls W EL ok)
  ks : ∀ (v u q : Value) (W : World), Row W v zs → Row W u xs → Fit u → Row W q ys → Fit q → Calls Tryd.prog 8 #[v, u, .int .i64 m, .int .i64 T, q] W (Ls W EL ok)
  kr : ok = true → 4 * (xs.length : Int) + 4 < m → ∀ (x q : Value) (W : World), Row W x (toI ds) → Row W q ys → Fit q → Calls Tryd.prog 9 #[.agg #[.bool nb, x], q] W (Ls W EL true)
theorem cen_sv {rs ps : List Nat} (hb : Bas ps) : sv (decide (prodN ps ≤ coN rs ps * 2)) (dig (if coN rs ps * 2 < prodN ps then coN rs ps else prodN ps - coN rs ps)) = cenX rs ps ∧ Good (decide (prodN ps ≤ coN rs ps * 2)) (toI (dig (if coN rs ps * 2 < prodN ps then coN rs ps else prodN ps - coN rs ps))) := by
  have hq0 := prodN_posF hb
  have hcl : coN rs ps < prodN ps := Nat.mod_lt _ hq0
  have hcp : cnt (prodN ps) ≤ 7 := by
    have := prodN_cnt ps hb.hi ps.length (Nat.le_refl _)
    rw [List.take_length] at this
    have := hb.len6
    omega
  unfold cenX
  by_cases h : coN rs ps * 2 < prodN ps
  · rw [if_pos h, if_pos h, decide_eq_false (show ¬ prodN ps ≤ coN rs ps * 2 by omega)]
    refine ⟨?_, gw_good6 (dig_nrm _) (fun h => by cases h) ?_⟩
    · show (val (dig (coN rs ps)) : Int) = _
      rw [val_dig]
    · have : cnt (coN rs ps) ≤ 7 := Nat.le_trans (cnt_mono (by omega)) hcp
      unfold cnt at this
      omega
  · rw [if_neg h, if_neg h, decide_eq_true (show prodN ps ≤ coN rs ps * 2 by omega)]
    refine ⟨?_, gw_good6 (dig_nrm _) (fun _ h0 => ?_) ?_⟩
    · show -(val (dig (prodN ps - coN rs ps)) : Int) = _
      rw [val_dig]
    · have := dig_nil h0
      omega
    · have : cnt (prodN ps - coN rs ps) ≤ 7 := Nat.le_trans (cnt_mono (Nat.sub_le _ _)) hcp
      unfold cnt at this
      omega
theorem ex_all (zs xs ys : List Int) (m : Int) (hz : zs.length ≤ 100) (hx : xs.length ≤ 100) (hy : ys.length ≤ 100) (hxb : ∀ x ∈ xs, -9223372036854775808 ≤ x ∧ x ≤ 9223372036854775807) (hyb : ∀ x ∈ ys, -9223372036854775808 ≤ x ∧ x ≤ 9223372036854775807) :
    ∃ nb ds cn T EL ok, ExK zs xs ys m nb ds cn T EL ok := by
  by_cases h : basB xs = true ∧ rsB zs xs = true
  · obtain ⟨ps, rfl, hb⟩ := basB_yes h.1
    obtain ⟨qs, rfl, hR⟩ := rsB_yes rfl hb h.2
    obtain ⟨csv, cgd⟩ := cen_sv (rs := qs) hb
    have KC := fun (v u : Value) (W : World) (hv : Row W v (toZ qs)) (hu : Row W u (toZ ps)) (hf : Fit u) => spec_CentredWhole_yes qs ps v u W hv hu hf hR h.1 h.2
    obtain ⟨nb, hnb⟩ : ∃ nb, decide (prodN ps ≤ coN qs ps * 2) = nb := ⟨_, rfl⟩
    obtain ⟨ds, hds⟩ : ∃ ds, dig (if coN qs ps * 2 < prodN ps then coN qs ps else prodN ps - coN qs ps) = ds := ⟨_, rfl⟩
    rw [hnb, hds] at KC csv cgd
    have hdl : ds.length ≤ 40 := by have := cgd.1; rw [toI_len] at this; exact this
    cases he : ecB (toZ qs) (toZ ps) m (modW nb (toI ds) m) ys
    · exact ⟨nb, ds, true, _, [], false, hdl, by simp, rfl, KC, (fun v u q W hp ht hv hu hf hq hfq => impl_ExactConvert_no _ _ _ _ _ v u q W hp ht hv hu hf hq hfq (by omega) (by omega) (by omega) he), (fun v u q W hv hu hf hq hfq => spec_ExactConvert_no _ _ _ _ _ v u q W hv hu hf hq hfq (by omega) (by omega) (by omega) hxb hyb he), (fun h => by cases h)⟩
    · have h' := he
      unfold ecB exB pmB at h'
      simp only [Bool.and_eq_true] at h'
      obtain ⟨⟨⟨⟨h1, h2⟩, h3⟩, ⟨⟨⟨⟨h4, h5⟩, h6⟩, h7⟩, h8⟩⟩, h9⟩ := h'
      obtain ⟨ns, rfl, hB⟩ := basB_yes h2
      obtain ⟨m1, m2⟩ := modB_yes h4
      simp only [resB, Bool.and_eq_true, decide_eq_true_eq] at h9
      obtain ⟨A, hA⟩ := Int.eq_ofNat_of_zero_le h9.1
      obtain ⟨E, rfl⟩ := Int.eq_ofNat_of_zero_le (show 0 ≤ m by omega)
      have hAT : (A : Int) = cenX qs ps % (E : Int) := by
        rw [← hA]
        unfold modW
        rw [if_pos ⟨cgd, by omega, by omega⟩, nat_toI6, csv]
      rw [hA] at he h9
      have hlen : (toZ (exL E A ps (yL qs ps) ns)).length ≤ 10 := by rw [toZ_len, exL_len]; have := hB.len6; omega
      refine ⟨nb, ds, true, (A : Int), toZ (exL E A ps (yL qs ps) ns), true, hdl, hlen, hA, KC, (fun v u q W hp ht hv hu hf hq hfq => impl_ExactConvert_yes qs ps ns E A v u q W hp ht hv hu hf hq hfq hR hB (by omega) (by omega) he), (fun v u q W hv hu hf hq hfq => spec_ExactConvert_yes qs ps ns E A v u q W hv hu hf hq hfq hR hB (by omega) (by omega) he), fun _ hgt x q W hx hq hfq => ?_⟩
      have hPE := pr_isP (p := E) (by simpa using h5) (by omega)
      have hodd : E % 2 = 1 := by
        rcases Nat.mod_two_eq_zero_or_one E with h0 | h0
        · exfalso
          rcases hPE.2 2 (Nat.dvd_of_mod_eq_zero h0) with h | h
          · omega
          · rw [toZ_len] at hgt
            omega
        · exact h0
      have hne : E ∉ ps := fun hm => by
        have : (toZ ps).contains ((E : Nat) : Int) = true := by
          rw [List.contains_iff_mem]
          exact List.mem_map.2 ⟨E, hm, rfl⟩
        rw [this] at h7
        cases h7
      have hex := ex_exact (rs := qs) hb hPE hodd h1 hne hAT (by rw [toZ_len] at hgt; omega)
      have hres := ex_res E A qs ps ns hB (cenX qs ps) hex.symm
      have r := spec_ResiduesOf_yes nb (toI ds) ns x q W hx hq hfq (by rw [toI_len]; omega) cgd hB h2
      have hrl : resL nb (toI ds) ns = toZ (exL E A ps (yL qs ps) ns) := by
        rw [← hres]
        unfold resL
        rw [nat_toI6, csv, nat_toI6, sv_of]
      rw [hrl] at r
      exact r
  · have he : ecB zs xs m (modW false (toI []) m) ys = false := by
      unfold ecB
      cases hb : basB xs
      · rfl
      · cases hr : rsB zs xs
        · cases basB ys <;> rfl
        · exact absurd ⟨hb, hr⟩ h
    exact ⟨false, [], false, _, [], false, by simp, by simp, rfl, (fun v u W hv hu hf => spec_CentredWhole_no zs xs v u W hv hu hf (by omega) (by omega) hxb h), (fun v u q W hp ht hv hu hf hq hfq => impl_ExactConvert_no _ _ _ _ _ v u q W hp ht hv hu hf hq hfq (by omega) (by omega) (by omega) he), (fun v u q W hv hu hf hq hfq => spec_ExactConvert_no _ _ _ _ _ v u q W hv hu hf hq hfq (by omega) (by omega) (by omega) hxb hyb he), (fun h => by cases h)⟩
theorem fl_all (zs us xs ys : List Int) (hz : zs.length ≤ 100) (hu0 : us.length ≤ 100) (hx : xs.length ≤ 100) (hy : ys.length ≤ 100) (hxb : ∀ x ∈ xs, -9223372036854775808 ≤ x ∧ x ≤ 9223372036854775807) (hyb : ∀ x ∈ ys, -9223372036854775808 ≤ x ∧ x ≤ 9223372036854775807) :
    ∃ (FL : List Int) (ok : Bool), FL.length ≤ 10 ∧ (∀ (v d u q : Value) (W : World), PrsW W → TabW W → Row W v zs → Row W d us → Row W u xs → Fit u → Row W q ys → Fit q → Calls Tryd.prog 12 #[v, d, u, q] W (Ls W FL ok)) ∧ (∀ (v d u q : Value) (W : World), Row W v zs → Row W d us → Row W u xs → Fit u → Row W q ys → Fit q → Calls Tryd.prog 13 #[v, d, u, q] W (Ls W FL ok)) := by
  cases h : flB zs us xs ys
  · exact ⟨[], false, by simp, (fun v d u q W hp ht hv hd hu hf hq hfq => impl_FloorConvert_no zs us xs ys v d u q W hp ht hv hd hu hf hq hfq (by omega) (by omega) h), (fun v d u q W hv hd hu hf hq hfq => spec_FloorConvert_no zs us xs ys v d u q W hv hd hu hf hq hfq (by omega) (by omega) (by omega) (by omega) hxb hyb h)⟩
  · have h' := h
    unfold flB at h'
    simp only [Bool.and_eq_true, Bool.not_eq_true'] at h'
    obtain ⟨⟨⟨⟨h1, h2⟩, h3⟩, h4⟩, h5⟩ := h'
    obtain ⟨ps, rfl, hb⟩ := basB_yes h1
    obtain ⟨ns, rfl, hB⟩ := basB_yes h2
    obtain ⟨qs, rfl, hR⟩ := rsB_yes rfl hb h3
    obtain ⟨ws, rfl, hS⟩ := rsB_yes rfl hB h4
    refine ⟨toZ (flL ps (yL qs ps) ws ns), true, ?_, (fun v d u q W hp ht hv hd hu hf hq hfq => impl_FloorConvert_yes qs ws ps ns v d u q W hp ht hv hd hu hf hq hfq hR hS (by rw [h1, h2, h3]; rfl) h4 h5), (fun v d u q W hv hd hu hf hq hfq => spec_FloorConvert_yes qs ws ps ns v d u q W hv hd hu hf hq hfq hR hS h1 h2 h3 h4 h5)⟩
    have : (toZ (flL ps (yL qs ps) ws ns)).length = ns.length := by simp [toZ, flL]
    have := hB.len6
    omega
end Go.Proofs.YtfcdfielbpdloaaDoor
