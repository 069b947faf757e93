/- Proved: several texts in one: what each proves is said ahead of it. -/
import Derived.Test.YtinldhoimnbkhaaDoorDb02
import Derived.Test.YtinldhoimnbkhaaDoorDb03
import Derived.Test.YtinldhoimnbkhaaDoorDb09
import Derived.Test.YtinldhoimnbkhaaDoorDb04
/- Proved: the program's RingOf where it answers: its own contract alone. -/
namespace Go.Proofs.YtinldhoimnbkhaaDoor
open Go.ChangeShapes Go.WideShapes Go.ChangeAt Go.RowKit
open M1
set_option linter.unusedVariables false
set_option linter.unusedSimpArgs false
theorem Root_impl (p n : Nat) (h : RootOk p n) : ∃ R : Nat, R < p ∧ (∀ W, PrsW W → TabW W → Calls Tryd.prog 131 #[.int .i64 p, .int .i64 n] W fun e w' => e = .returned (.tuple #[.int .i64 R, .bool true]) ∧ ∃ k, w' = W.drewN k) := by
  obtain ⟨b1, b2, b3⟩ := ordB_yes n h.ord
  obtain ⟨m1, m2⟩ := modB_yes h.md
  have hdv : (p - 1) % n = 0 := by
    have h1 := h.dv
    have e : (p : Int) - 1 = ((p - 1 : Nat) : Int) := by omega
    rw [e] at h1
    have h2 : (((p - 1) % n : Nat) : Int) = 0 := by rw [← h1]; simp
    omega
  have hp3 : 3 ≤ p := by
    rcases Nat.lt_or_ge p 3 with hlt | hge
    · exfalso
      have h2 : p = 2 := by omega
      rw [h2, Nat.mod_eq_of_lt (by omega)] at hdv
      omega
    · exact hge
  obtain ⟨A, hA2, hAp, hmin, hA⟩ := first_ex p ((p - 1) / 2) (by omega) (by omega)
  have hr := powM_lt (A % p) ((p - 1) / n) p (by omega)
  refine ⟨_, ?_, fun W h1 h2 => impl_RootOf_yes p n _ _ W h1 h2 h hr (fun W => impl_someRoot p n _ _ A W hp3 (by omega) rfl rfl (by omega) b2 hA2 hAp hmin hA) (fun W => impl_leastRoot _ p n W (by omega) (by omega) hr b1 b2)⟩
  exact lr_lt p _ (by omega) _ _ _ hr
theorem Ring_impl (p n : Int) (h : RingOk p n) : ∃ R : Int, (0 ≤ R ∧ R < p) ∧ (∀ W, PrsW W → TabW W → Calls Tryd.prog 111 #[.int .i64 p, .int .i64 n] W fun e w' => e = .returned (.tuple #[.agg #[.int .i64 p, .int .i64 n, .int .i64 R], .bool true]) ∧ Old W w') := by
  obtain ⟨m1, m2⟩ := modB_yes h.md
  have hz := h.sz
  obtain ⟨P, rfl⟩ : ∃ P : Nat, p = P := ⟨p.toNat, by omega⟩
  obtain ⟨N, rfl⟩ : ∃ N : Nat, n = N := ⟨n.toNat, by omega⟩
  obtain ⟨R, h1, h3⟩ := Root_impl P (2 * N) (by have := h.root; exact_mod_cast this)
  have e : ((2 * N : Nat) : Int) = 2 * (N : Int) := by omega
  rw [e] at h3
  exact ⟨R, by omega, fun W a b => impl_RingOf_yes P N R W a b h.sz h3⟩
end Go.Proofs.YtinldhoimnbkhaaDoor
/- Proved: whether a space is as it should be, as the model tells it. -/
namespace Go.Proofs.YtinldhoimnbkhaaDoor
open Go.ChangeShapes Go.WideShapes Go.ChangeAt Go.RowKit
open M1
set_option linter.unusedVariables false
set_option linter.unusedSimpArgs false
/-- from place k on 2 N divides each prime less 1 -/
def spA (N : Int) (xs : List Int) (k : Nat) : Bool := decide (∀ i, i < xs.length → k ≤ i → (xs.getD i 0 - 1) % (2 * N) = 0)
theorem spA_end {N : Int} {xs : List Int} {k : Nat} (h : xs.length ≤ k) : spA N xs k = true := decide_eq_true (fun i h1 h2 => by omega)
theorem spA_no {N : Int} {xs : List Int} {k : Nat} (h : k < xs.length) (hk : ¬ (xs.getD k 0 - 1) % (2 * N) = 0) : spA N xs k = false :=
  decide_eq_false (fun f => hk (f k h (Nat.le_refl _)))
theorem spA_yes {N : Int} {xs : List Int} {k : Nat} (hk : (xs.getD k 0 - 1) % (2 * N) = 0) : spA N xs k = spA N xs (k + 1) := by
  unfold spA
  apply decide_eq_decide.2
  constructor
  · exact fun f i h1 h2 => f i h1 (by omega)
  · intro f i h1 h2
    rcases Nat.eq_or_lt_of_le h2 with e | e
    · subst e
      exact hk
    · exact f i h1 e
/-- a space is as it should be -/
def spB (N : Int) (xs : List Int) : Bool := rgB N && (basB xs && spA N xs 0)
theorem bas_at {xs : List Int} (h : basB xs = true) : (1 ≤ xs.length ∧ xs.length ≤ 6) ∧ ∀ k, k < xs.length → pmB (xs.getD k 0) = true := by
  unfold basB at h
  rw [Bool.and_eq_true] at h
  refine ⟨of_decide_eq_true h.1, fun k hk => ?_⟩
  have := of_decide_eq_true h.2 k hk (Nat.zero_le _)
  unfold gbAt at this
  rw [Bool.and_eq_true] at this
  exact this.1
theorem pm_bd {p : Int} (h : pmB p = true) : 2 ≤ p ∧ p ≤ 268435456 := by
  unfold pmB at h
  rw [Bool.and_eq_true] at h
  exact modB_yes h.1
theorem sp_ring {N : Int} {xs : List Int} (h : spB N xs = true) : (N = 2 ∨ N = 4 ∨ N = 8 ∨ N = 16) ∧ basB xs = true ∧ ∀ k, k < xs.length → RingOk (xs.getD k 0) N := by
  unfold spB at h
  rw [Bool.and_eq_true, Bool.and_eq_true] at h
  obtain ⟨h1, h2, h3⟩ := h
  have hz := rgB_yes h1
  refine ⟨hz, h2, fun k hk => ?_⟩
  have hp := (bas_at h2).2 k hk
  unfold pmB at hp
  rw [Bool.and_eq_true] at hp
  exact ⟨hz, hp.1, hp.2, of_decide_eq_true h3 k hk (Nat.zero_le _)⟩
theorem sp_not {N : Int} {xs : List Int} {k : Nat} (hb : basB xs = true) (hk : k < xs.length) (h : ¬ RingOk (xs.getD k 0) N) : spB N xs = false := by
  cases hs : spB N xs with
  | false => rfl
  | true => exact absurd ((sp_ring hs).2.2 k hk) h
theorem sp_all {N : Int} {xs : List Int} (hb : basB xs = true) (h : ∀ k, k < xs.length → RingOk (xs.getD k 0) N) : spB N xs = true := by
  have h1 := (bas_at hb).1
  unfold spB
  rw [hb, rgB_mk (h 0 (by omega)).sz]
  simp only [Bool.true_and]
  exact decide_eq_true (fun i hi _ => (h i hi).dv)
set_option maxRecDepth 100000 in
set_option maxHeartbeats 2000000 in
theorem spec_goodSpace (N : Int) (xs : List Int) (v : Value) (w : World) (hv : Row w v xs) (hf : Fit v) (hl : xs.length ≤ 9223372036854775807) (hx : ∀ x ∈ xs, -9223372036854775808 ≤ x ∧ x ≤ 9223372036854775807) :
    Calls Tryd.prog 52 #[.agg #[.int .i64 N, v]] w fun e w' => e = .returned (.bool (spB N xs)) ∧ Old w w' := by
  have cb := fun W v (h : Row W v xs) (f : Fit v) => spec_goodBasis xs v W h f hl hx
  have cs := fun W => spec_isSize N W
  have HV : Hid (Row w v xs) := hv
  have HF : Hid (Fit v) := hf
  obtain ⟨a0, cap0, ev⟩ := hv.slice
  subst ev
  have HN : Hid (Old w (w.alloc (.cells #[.int .i64 N, .slice a0 xs.length cap0] 31))) := (Old.refl w).alloc _
  obtain ⟨B, hB⟩ : ∃ B, spB N xs = B := ⟨_, rfl⟩
  rw [hB]
  clear hv hf hx
  cases hs : rgB N
  · rw [hs] at cs
    have HB : Hid (false = B) := by show false = B; rw [← hB]; unfold spB; rw [hs]; rfl
    clear hB hs
    go_enter Tryd.func52, Tryd.ntmps52
    go_wp2_with (go_at_call 86; refine (cs _).mono ?_; rintro e w' ⟨rfl, rfl⟩)
    go_ret
    exact ⟨ret_bb HB.out, (Old.refl w).alloc _⟩
  · rw [hs] at cs
    have hz := rgB_yes hs
    have hb16 : 2 ≤ N ∧ N ≤ 16 := by omega
    cases hb : basB xs
    · have HB : Hid (false = B) := by show false = B; rw [← hB]; unfold spB; rw [hs, hb]; rfl
      rw [hb] at cb
      clear hB hs hb hz
      go_enter Tryd.func52, Tryd.ntmps52
      go_wp2_with (go_at_call 86; refine (cs _).mono ?_; rintro e w' ⟨rfl, rfl⟩)
      refine (cb _ _ (HV.out.old HN.out) HF.out).mono ?_
      rintro e w1 ⟨rfl, g1⟩
      have HG1 : Hid (Old w w1) := Old.trans HN.out g1
      clear g1
      go_wp2_with fail
      go_ret
      exact ⟨ret_bb HB.out, HG1.out⟩
    · have HB0 : Hid (spA N xs 0 = B) := by show _ = B; rw [← hB]; unfold spB; rw [hs, hb]; rfl
      have HPM : Hid (∀ k, k < xs.length → pmB (xs.getD k 0) = true) := (bas_at hb).2
      have hlen := (bas_at hb).1
      rw [hb] at cb
      clear hB hs hb hz
      go_enter Tryd.func52, Tryd.ntmps52
      go_wp2_with (go_at_call 86; refine (cs _).mono ?_; rintro e w' ⟨rfl, rfl⟩)
      refine (cb _ _ (HV.out.old HN.out) HF.out).mono ?_
      rintro e w1 ⟨rfl, g1⟩
      have HG1 : Hid (Old w w1) := Old.trans HN.out g1
      have HS1 : Hid (w1.cell? ⟨w.heap.size, 0, none⟩ = some (.int .i64 N) ∧ w1.cell? ⟨w.heap.size, 1, none⟩ = some (.slice a0 xs.length cap0)) := ⟨(g1.cell (p := ⟨w.heap.size, 0, none⟩) (by simp)).trans (cell_at _ _ _ _ _ rfl), (g1.cell (p := ⟨w.heap.size, 1, none⟩) (by simp)).trans (cell_at _ _ _ _ _ rfl)⟩
      have hs1 : w.heap.size < w1.heap.size := by have := g1.size; simp at this; omega
      clear g1 cb cs
      rcases (HV.out) with ⟨a, cap, e, e2⟩ | ⟨b, o, cap, e, hb, h1, hc⟩
      · subst e2
        simp at hlen
      simp only [Value.slice.injEq, true_and] at e
      obtain ⟨rfl, rfl⟩ := e
      have HC : Hid (∀ j, j < xs.length → w.cell? ⟨b, o + j, none⟩ = some (.int .i64 (xs.getD j 0))) := hc
      clear hc
      have s0 := HS1.out.1
      have s1 := HS1.out.2
      go_wp2_with fail
      go_loopw [18] (fun i W => ∃ k : Nat, k ≤ xs.length ∧ i = .int .i64 k ∧ Hid (spA N xs k = B) ∧ W = w1) (fun i _ => xs.length - (intOf i).toNat)
      case atStart => exact ⟨0, by omega, rfl, HB0, rfl⟩
      case round =>
        obtain ⟨k, hk, rfl, H1, hW⟩ := hrel
        obtain rfl : w1 = wr := hW.symm
        clear HB0 hW
        by_cases hlt : k < xs.length
        · have d1 : decide ((k : Int) < (xs.length : Int)) = true := by simp; omega
          have c1 : w1.cell? ⟨b, o + k, none⟩ = some (.int .i64 (xs.getD k 0)) := (HG1.out.cell (p := ⟨b, o + k, none⟩) hb).trans (HC.out k hlt)
          have hp := pm_bd (HPM.out k hlt)
          have hnn : ¬ N = 0 := by omega
          have hnn2 : ¬ 2 * N = 0 := by omega
          by_cases hd : (xs.getD k 0 - 1) % (2 * N) = 0
          · have H2 : Hid (spA N xs (k + 1) = B) := by have := H1.out; rw [spA_yes hd] at this; exact this
            have hd2 : ((xs.getD k 0 - 1) % (2 * N) != 0) = false := by rw [hd]; rfl
            clear H1 hd
            generalize xs.getD k 0 = p at *
            go_wp2_with fail
            exact ⟨⟨k + 1, by omega, by go_num, H2, by first | rfl | trivial⟩, by simp [intOf]; omega⟩
          · have H2 : Hid (false = B) := by have := H1.out; rw [spA_no hlt hd] at this; exact this
            have hd2 : ((xs.getD k 0 - 1) % (2 * N) != 0) = true := bne_iff_ne.2 hd
            clear H1 hd
            generalize xs.getD k 0 = p at *
            go_wp2_with fail
            go_ret
            exact ⟨ret_bb H2.out, HG1.out⟩
        · have d1 : decide ((k : Int) < (xs.length : Int)) = false := by simp; omega
          have H2 : Hid (true = B) := by have := H1.out; rw [spA_end (by omega)] at this; exact this
          clear H1
          go_wp2_with fail
          go_ret
          exact ⟨ret_bb H2.out, HG1.out⟩
end Go.Proofs.YtinldhoimnbkhaaDoor
/- Proved: whether rows are as they should be, as the model tells it. -/
namespace Go.Proofs.YtinldhoimnbkhaaDoor
open Go.ChangeShapes Go.WideShapes Go.ChangeAt Go.RowKit
open M1
set_option linter.unusedVariables false
set_option linter.unusedSimpArgs false
/-- from place k on each row is a polynomial of its ring -/
def rwA (N : Int) (ps : List Int) (xss : List (List Int)) (k : Nat) : Bool := decide (∀ i, i < ps.length → k ≤ i → polyB (ps.getD i 0) N (xss.getD i []) = true)
theorem rwA_end {N : Int} {ps : List Int} {xss : List (List Int)} {k : Nat} (h : ps.length ≤ k) : rwA N ps xss k = true := decide_eq_true (fun i h1 h2 => by omega)
theorem rwA_no {N : Int} {ps : List Int} {xss : List (List Int)} {k : Nat} (h : k < ps.length) (hk : polyB (ps.getD k 0) N (xss.getD k []) = false) : rwA N ps xss k = false :=
  decide_eq_false (fun f => by rw [f k h (Nat.le_refl _)] at hk; cases hk)
theorem rwA_yes {N : Int} {ps : List Int} {xss : List (List Int)} {k : Nat} (hk : polyB (ps.getD k 0) N (xss.getD k []) = true) : rwA N ps xss k = rwA N ps xss (k + 1) := by
  unfold rwA
  apply decide_eq_decide.2
  constructor
  · exact fun f i h1 h2 => f i h1 (by omega)
  · intro f i h1 h2
    rcases Nat.eq_or_lt_of_le h2 with e | e
    · subst e
      exact hk
    · exact f i h1 e
/-- rows are as they should be beside a good space -/
def rwB (N : Int) (ps : List Int) (xss : List (List Int)) : Bool := decide (xss.length = ps.length) && rwA N ps xss 0
set_option maxRecDepth 100000 in
set_option maxHeartbeats 2000000 in
theorem spec_l5Rows (N : Int) (ps : List Int) (xss : List (List Int)) (v u : Value) (w : World) (hv : Row w v ps) (hu : RowS w u xss) (hl : xss.length ≤ 1048576) (hr : ∀ r ∈ xss, r.length ≤ 1048576) (hs : spB N ps = true) :
    Calls Tryd.prog 53 #[.agg #[.int .i64 N, v], u] w fun e w' => e = .returned (.bool (rwB N ps xss)) ∧ Old w w' := by
  obtain ⟨hz, hbb, hring⟩ := sp_ring hs
  have hlen := (bas_at hbb).1
  have HPM : Hid (∀ k, k < ps.length → pmB (ps.getD k 0) = true) := (bas_at hbb).2
  have HR : Hid (∀ r ∈ xss, r.length ≤ 1048576) := hr
  obtain ⟨a0, cap0, ev⟩ := hv.slice
  obtain ⟨a1, cap1, eu⟩ := hu.slice
  subst ev eu
  have HV : Hid (Row w (.slice a0 ps.length cap0) ps) := hv
  have HU : Hid (RowS w (.slice a1 xss.length cap1) xss) := hu
  have hN : 2 ≤ N ∧ N ≤ 16 := by omega
  clear hv hu hr hring hbb hz hs
  by_cases hn : xss.length = ps.length
  · have HB : Hid (rwA N ps xss 0 = rwB N ps xss) := by show _ = _; unfold rwB; rw [decide_eq_true hn]; rfl
    have dn : ((xss.length : Int) != (ps.length : Int)) = false := by simp; omega
    generalize rwB N ps xss = B at *
    rcases HV.out with ⟨a, cap, e, e2⟩ | ⟨b, o, cap, e, hb, h1, hc⟩
    · subst e2
      simp at hlen
    simp only [Value.slice.injEq, true_and] at e
    obtain ⟨rfl, rfl⟩ := e
    rcases HU.out with ⟨a, cap, e, e2⟩ | ⟨b', o', cap, us, e, hb', h1', hc'⟩
    · subst e2
      simp at hn
      omega
    simp only [Value.slice.injEq, true_and] at e
    obtain ⟨rfl, rfl⟩ := e
    have HC : Hid (∀ j, j < ps.length → w.cell? ⟨b, o + j, none⟩ = some (.int .i64 (ps.getD j 0))) := hc
    have HC' : Hid (∀ j, j < xss.length → w.cell? ⟨b', o' + j, none⟩ = some (us j) ∧ Row w (us j) (xss.getD j [])) := hc'
    have HNN : Hid (xss.length = ps.length) := hn
    clear hc hc' hn
    have HN : Hid (Old w (w.alloc (.cells #[.int .i64 N, .slice (some ⟨b, o, none⟩) ps.length cap0] 31))) := (Old.refl w).alloc _
    go_enter Tryd.func53, Tryd.ntmps53
    go_wp2_with fail
    go_loopw [16] (fun i W => ∃ k : Nat, k ≤ ps.length ∧ i = .int .i64 k ∧ Hid (rwA N ps xss k = B) ∧ Hid (Old (w.alloc (.cells #[.int .i64 N, .slice (some ⟨b, o, none⟩) ps.length cap0] 31)) W)) (fun i _ => ps.length - (intOf i).toNat)
    case atStart => exact ⟨0, by omega, rfl, HB, Old.refl _⟩
    case round =>
      obtain ⟨k, hk, rfl, H1, HG⟩ := hrel
      clear HB
      have HGw : Hid (Old w wr) := Old.trans HN.out HG.out
      have hsw : w.heap.size < wr.heap.size := by have := HG.out.size; simp at this; omega
      by_cases hlt : k < ps.length
      · have d1 : decide ((k : Int) < (ps.length : Int)) = true := by simp; omega
        have hx := HNN.out
        have d2 : decide ((k : Int) < (xss.length : Int)) = true := by simp; omega
        have hkx : k < xss.length := by omega
        have c1 : wr.cell? ⟨b, o + k, none⟩ = some (.int .i64 (ps.getD k 0)) := (HGw.out.cell (p := ⟨b, o + k, none⟩) hb).trans (HC.out k hlt)
        obtain ⟨c2, r2⟩ := HC'.out k hkx
        obtain ⟨x1, y1, e1⟩ := r2.slice
        rw [e1] at c2 r2
        have hp := pm_bd (HPM.out k hlt)
        have hm : xss.getD k [] ∈ xss := by simp [List.getD, hkx]
        have hrl := HR.out _ hm
        have c3 : wr.cell? ⟨b', o' + k, none⟩ = some (.slice x1 (xss.getD k []).length y1) := (HGw.out.cell (p := ⟨b', o' + k, none⟩) hb').trans c2
        have R3 : Hid (Row wr (.slice x1 (xss.getD k []).length y1) (xss.getD k [])) := r2.old HGw.out
        have s0 : wr.cell? ⟨w.heap.size, 0, none⟩ = some (.int .i64 N) := (HG.out.cell (p := ⟨w.heap.size, 0, none⟩) (by simp)).trans (cell_at _ _ _ _ _ rfl)
        have HY : Hid (polyB (ps.getD k 0) N (xss.getD k []) = true → rwA N ps xss (k + 1) = B) := fun h => by have := H1.out; rw [rwA_yes h] at this; exact this
        have HNo : Hid (polyB (ps.getD k 0) N (xss.getD k []) = false → false = B) := fun h => by have := H1.out; rw [rwA_no hlt h] at this; exact this
        generalize xss.getD k [] = xs at *
        generalize ps.getD k 0 = p at *
        have cp := fun W (h : Row W (.slice x1 xs.length y1) xs) => spec_poly p N 0 xs _ W h (by omega) hp
        obtain ⟨q, hq⟩ : ∃ q, polyB p N xs = q := ⟨_, rfl⟩
        rw [hq] at cp HY HNo
        have hbr : b < wr.heap.size := Nat.lt_of_lt_of_le hb HGw.out.size
        have hbr' : b' < wr.heap.size := Nat.lt_of_lt_of_le hb' HGw.out.size
        have HAS : Hid (∀ W' : World, Old wr W' → (W'.cell? ⟨w.heap.size, 0, none⟩ = some (.int .i64 N) ∧ W'.cell? ⟨b', o' + k, none⟩ = some (.slice x1 xs.length y1))) := fun W' g => ⟨(g.cell (p := ⟨w.heap.size, 0, none⟩) hsw).trans s0, (g.cell (p := ⟨b', o' + k, none⟩) hbr').trans c3⟩
        clear H1 c2 r2 e1 hm hq hx
        cases q
        · have H3 : Hid (false = B) := HNo.out rfl
          clear HY HNo
          go_wp2_with fail
          go_region_held3 (fun W' => W'.cell? ⟨w.heap.size, 0, none⟩ = some (.int .i64 N) ∧ W'.cell? ⟨b', o' + k, none⟩ = some (.slice x1 xs.length y1)) (first | with_reducible exact HAS.out _ GE.out | with_reducible exact HAS.out _ (Below.drew (Old.refl wr)) | with_reducible exact HAS.out _ (Old.refl wr)) (first
            | (go_at_call 88; refine (cp _ (R3.out.old (Below.drew (Old.refl wr)))).mono ?_; rintro e w2 ⟨rfl, ge⟩; have GE : Hid (Old wr w2) := Old.trans (Below.drew (Old.refl wr)) ge; clear ge)
            | fail)
          have HG2 : Hid (Old w w2) := Old.trans HGw.out GE.out
          go_wp2_with fail
          go_ret
          exact ⟨ret_bb H3.out, HG2.out⟩
        · have H3 : Hid (rwA N ps xss (k + 1) = B) := HY.out rfl
          clear HY HNo
          go_wp2_with fail
          go_region_held3 (fun W' => W'.cell? ⟨w.heap.size, 0, none⟩ = some (.int .i64 N) ∧ W'.cell? ⟨b', o' + k, none⟩ = some (.slice x1 xs.length y1)) (first | with_reducible exact HAS.out _ GE.out | with_reducible exact HAS.out _ (Below.drew (Old.refl wr)) | with_reducible exact HAS.out _ (Old.refl wr)) (first
            | (go_at_call 88; refine (cp _ (R3.out.old (Below.drew (Old.refl wr)))).mono ?_; rintro e w2 ⟨rfl, ge⟩; have GE : Hid (Old wr w2) := Old.trans (Below.drew (Old.refl wr)) ge; clear ge)
            | fail)
          have HG2 : Hid (Old (w.alloc (.cells #[.int .i64 N, .slice (some ⟨b, o, none⟩) ps.length cap0] 31)) w2) := Old.trans HG.out GE.out
          go_wp2_with fail
          exact ⟨⟨k + 1, by omega, by go_num, H3, HG2⟩, by simp [intOf]; omega⟩
      · have d1 : decide ((k : Int) < (ps.length : Int)) = false := by simp; omega
        have H2 : Hid (true = B) := by have := H1.out; rw [rwA_end (by omega)] at this; exact this
        clear H1
        go_wp2_with fail
        go_ret
        exact ⟨ret_bb H2.out, HGw.out⟩
  · have HB : Hid (false = rwB N ps xss) := by show _ = _; unfold rwB; rw [decide_eq_false hn]; rfl
    have dn : ((xss.length : Int) != (ps.length : Int)) = true := by simp; omega
    generalize rwB N ps xss = B at *
    clear hn
    go_enter Tryd.func53, Tryd.ntmps53
    go_wp2_with fail
    go_ret
    exact ⟨ret_bb HB.out, (Old.refl w).alloc _⟩
end Go.Proofs.YtinldhoimnbkhaaDoor
