/- Proved: several texts in one: what each proves is said ahead of it. -/
import Derived.Test.YtinldhoimnbkhaaGreatDoorZd02
import Derived.Test.YtinldhoimnbkhaaGreatDoorZd03
import Derived.Test.YtinldhoimnbkhaaGreatDoorZd09
import Derived.Test.YtinldhoimnbkhaaGreatDoorZd04
import Derived.Deep.AppendLies
import Derived.Maps.AppendAt
/- Proved: the program's RingOf where it answers: its own contract alone. -/
namespace Go.Proofs.YtinldhoimnbkhaaGreatDoor
open Go.ChangeShapes Go.WideShapes Go.ChangeAt Go.RowKit
open M1
set_option linter.unusedVariables false
set_option linter.unusedSimpArgs false
theorem Root_impl (p n : Nat) (h : RootOk p n) : ∃ R : Nat, R < p ∧ (∀ W, PrsW W → TabW W → Calls Tryz.prog 111 #[.int .i64 p, .int .i64 n] W fun e w' => e = .returned (.tuple #[.int .i64 R, .bool true]) ∧ ∃ k, w' = W.drewN k) := by
  obtain ⟨b1, b2, b3⟩ := ordB_yes n h.ord
  obtain ⟨m1, m2⟩ := modB_yes h.md
  have hdv : (p - 1) % n = 0 := by
    have h1 := h.dv
    have e : (p : Int) - 1 = ((p - 1 : Nat) : Int) := by omega
    rw [e] at h1
    have h2 : (((p - 1) % n : Nat) : Int) = 0 := by rw [← h1]; simp
    omega
  have hp3 : 3 ≤ p := by
    rcases Nat.lt_or_ge p 3 with hlt | hge
    · exfalso
      have h2 : p = 2 := by omega
      rw [h2, Nat.mod_eq_of_lt (by omega)] at hdv
      omega
    · exact hge
  obtain ⟨A, hA2, hAp, hmin, hA⟩ := first_ex p ((p - 1) / 2) (by omega) (by omega)
  have hr := powM_lt (A % p) ((p - 1) / n) p (by omega)
  refine ⟨_, ?_, fun W h1 h2 => impl_RootOf_yes p n _ _ W h1 h2 h hr (fun W => impl_someRoot p n _ _ A W hp3 (by omega) rfl rfl (by omega) b2 hA2 hAp hmin hA) (fun W => impl_leastRoot _ p n W (by omega) (by omega) hr b1 b2)⟩
  exact lr_lt p _ (by omega) _ _ _ hr
theorem Ring_impl (p n : Int) (h : RingOk p n) : ∃ R : Int, (0 ≤ R ∧ R < p) ∧ (∀ W, PrsW W → TabW W → Calls Tryz.prog 95 #[.int .i64 p, .int .i64 n] W fun e w' => e = .returned (.tuple #[.agg #[.int .i64 p, .int .i64 n, .int .i64 R], .bool true]) ∧ Old W w') := by
  obtain ⟨m1, m2⟩ := modB_yes h.md
  have hz := h.sz
  obtain ⟨P, rfl⟩ : ∃ P : Nat, p = P := ⟨p.toNat, by omega⟩
  obtain ⟨N, rfl⟩ : ∃ N : Nat, n = N := ⟨n.toNat, by omega⟩
  obtain ⟨R, h1, h3⟩ := Root_impl P (2 * N) (by have := h.root; exact_mod_cast this)
  have e : ((2 * N : Nat) : Int) = 2 * (N : Int) := by omega
  rw [e] at h3
  exact ⟨R, by omega, fun W a b => impl_RingOf_yes P N R W a b h.sz h3⟩
end Go.Proofs.YtinldhoimnbkhaaGreatDoor
/- Proved: whether a space is as it should be, as the model tells it. -/
namespace Go.Proofs.YtinldhoimnbkhaaGreatDoor
open Go.ChangeShapes Go.WideShapes Go.ChangeAt Go.RowKit
open M1
set_option linter.unusedVariables false
set_option linter.unusedSimpArgs false
/-- from place k on 2 N divides each prime less 1 -/
def spA (N : Int) (xs : List Int) (k : Nat) : Bool := decide (∀ i, i < xs.length → k ≤ i → (xs.getD i 0 - 1) % (2 * N) = 0)
theorem spA_end {N : Int} {xs : List Int} {k : Nat} (h : xs.length ≤ k) : spA N xs k = true := decide_eq_true (fun i h1 h2 => by omega)
theorem spA_no {N : Int} {xs : List Int} {k : Nat} (h : k < xs.length) (hk : ¬ (xs.getD k 0 - 1) % (2 * N) = 0) : spA N xs k = false :=
  decide_eq_false (fun f => hk (f k h (Nat.le_refl _)))
theorem spA_yes {N : Int} {xs : List Int} {k : Nat} (hk : (xs.getD k 0 - 1) % (2 * N) = 0) : spA N xs k = spA N xs (k + 1) := by
  unfold spA
  apply decide_eq_decide.2
  constructor
  · exact fun f i h1 h2 => f i h1 (by omega)
  · intro f i h1 h2
    rcases Nat.eq_or_lt_of_le h2 with e | e
    · subst e
      exact hk
    · exact f i h1 e
/-- a space is as it should be -/
def spB (N : Int) (xs : List Int) : Bool := rgB N && (basB xs && spA N xs 0)
theorem bas_at {xs : List Int} (h : basB xs = true) : (1 ≤ xs.length ∧ xs.length ≤ 6) ∧ ∀ k, k < xs.length → pmB (xs.getD k 0) = true := by
  unfold basB at h
  rw [Bool.and_eq_true] at h
  refine ⟨of_decide_eq_true h.1, fun k hk => ?_⟩
  have := of_decide_eq_true h.2 k hk (Nat.zero_le _)
  unfold gbAt at this
  rw [Bool.and_eq_true] at this
  exact this.1
theorem pm_bd {p : Int} (h : pmB p = true) : 2 ≤ p ∧ p ≤ 268435456 := by
  unfold pmB at h
  rw [Bool.and_eq_true] at h
  exact modB_yes h.1
theorem sp_ring {N : Int} {xs : List Int} (h : spB N xs = true) : (N = 2 ∨ N = 4 ∨ N = 8 ∨ N = 16) ∧ basB xs = true ∧ ∀ k, k < xs.length → RingOk (xs.getD k 0) N := by
  unfold spB at h
  rw [Bool.and_eq_true, Bool.and_eq_true] at h
  obtain ⟨h1, h2, h3⟩ := h
  have hz := rgB_yes h1
  refine ⟨hz, h2, fun k hk => ?_⟩
  have hp := (bas_at h2).2 k hk
  unfold pmB at hp
  rw [Bool.and_eq_true] at hp
  exact ⟨hz, hp.1, hp.2, of_decide_eq_true h3 k hk (Nat.zero_le _)⟩
theorem sp_not {N : Int} {xs : List Int} {k : Nat} (hb : basB xs = true) (hk : k < xs.length) (h : ¬ RingOk (xs.getD k 0) N) : spB N xs = false := by
  cases hs : spB N xs with
  | false => rfl
  | true => exact absurd ((sp_ring hs).2.2 k hk) h
theorem sp_all {N : Int} {xs : List Int} (hb : basB xs = true) (h : ∀ k, k < xs.length → RingOk (xs.getD k 0) N) : spB N xs = true := by
  have h1 := (bas_at hb).1
  unfold spB
  rw [hb, rgB_mk (h 0 (by omega)).sz]
  simp only [Bool.true_and]
  exact decide_eq_true (fun i hi _ => (h i hi).dv)
set_option maxRecDepth 100000 in
set_option maxHeartbeats 2000000 in
theorem spec_goodSpace (N : Int) (xs : List Int) (v : Value) (w : World) (hv : Row w v xs) (hf : Fit v) (hl : xs.length ≤ 9223372036854775807) (hx : ∀ x ∈ xs, -9223372036854775808 ≤ x ∧ x ≤ 9223372036854775807) :
    Calls Tryz.prog 78 #[.agg #[.int .i64 N, v]] w fun e w' => e = .returned (.bool (spB N xs)) ∧ Old w w' := by
  have cb := fun W v (h : Row W v xs) (f : Fit v) => spec_goodBasis xs v W h f hl hx
  have cs := fun W => spec_isSize N W
  have HV : Hid (Row w v xs) := hv
  have HF : Hid (Fit v) := hf
  obtain ⟨a0, cap0, ev⟩ := hv.slice
  subst ev
  have HN : Hid (Old w (w.alloc (.cells #[.int .i64 N, .slice a0 xs.length cap0] 54))) := (Old.refl w).alloc _
  obtain ⟨B, hB⟩ : ∃ B, spB N xs = B := ⟨_, rfl⟩
  rw [hB]
  clear hv hf hx
  cases hs : rgB N
  · rw [hs] at cs
    have HB : Hid (false = B) := by show false = B; rw [← hB]; unfold spB; rw [hs]; rfl
    clear hB hs
    go_enter Tryz.func78, Tryz.ntmps78
    go_wp2_with (go_at_call 92; refine (cs _).mono ?_; rintro e w' ⟨rfl, rfl⟩)
    go_ret
    exact ⟨ret_bb HB.out, (Old.refl w).alloc _⟩
  · rw [hs] at cs
    have hz := rgB_yes hs
    have hb16 : 2 ≤ N ∧ N ≤ 16 := by omega
    cases hb : basB xs
    · have HB : Hid (false = B) := by show false = B; rw [← hB]; unfold spB; rw [hs, hb]; rfl
      rw [hb] at cb
      clear hB hs hb hz
      go_enter Tryz.func78, Tryz.ntmps78
      go_wp2_with (go_at_call 92; refine (cs _).mono ?_; rintro e w' ⟨rfl, rfl⟩)
      refine (cb _ _ (HV.out.old HN.out) HF.out).mono ?_
      rintro e w1 ⟨rfl, g1⟩
      have HG1 : Hid (Old w w1) := Old.trans HN.out g1
      clear g1
      go_wp2_with fail
      go_ret
      exact ⟨ret_bb HB.out, HG1.out⟩
    · have HB0 : Hid (spA N xs 0 = B) := by show _ = B; rw [← hB]; unfold spB; rw [hs, hb]; rfl
      have HPM : Hid (∀ k, k < xs.length → pmB (xs.getD k 0) = true) := (bas_at hb).2
      have hlen := (bas_at hb).1
      rw [hb] at cb
      clear hB hs hb hz
      go_enter Tryz.func78, Tryz.ntmps78
      go_wp2_with (go_at_call 92; refine (cs _).mono ?_; rintro e w' ⟨rfl, rfl⟩)
      refine (cb _ _ (HV.out.old HN.out) HF.out).mono ?_
      rintro e w1 ⟨rfl, g1⟩
      have HG1 : Hid (Old w w1) := Old.trans HN.out g1
      have HS1 : Hid (w1.cell? ⟨w.heap.size, 0, none⟩ = some (.int .i64 N) ∧ w1.cell? ⟨w.heap.size, 1, none⟩ = some (.slice a0 xs.length cap0)) := ⟨(g1.cell (p := ⟨w.heap.size, 0, none⟩) (by simp)).trans (cell_at _ _ _ _ _ rfl), (g1.cell (p := ⟨w.heap.size, 1, none⟩) (by simp)).trans (cell_at _ _ _ _ _ rfl)⟩
      have hs1 : w.heap.size < w1.heap.size := by have := g1.size; simp at this; omega
      clear g1 cb cs
      rcases (HV.out) with ⟨a, cap, e, e2⟩ | ⟨b, o, cap, e, hb, h1, hc⟩
      · subst e2
        simp at hlen
      simp only [Value.slice.injEq, true_and] at e
      obtain ⟨rfl, rfl⟩ := e
      have HC : Hid (∀ j, j < xs.length → w.cell? ⟨b, o + j, none⟩ = some (.int .i64 (xs.getD j 0))) := hc
      clear hc
      have s0 := HS1.out.1
      have s1 := HS1.out.2
      go_wp2_with fail
      go_loopw [18] (fun i W => ∃ k : Nat, k ≤ xs.length ∧ i = .int .i64 k ∧ Hid (spA N xs k = B) ∧ W = w1) (fun i _ => xs.length - (intOf i).toNat)
      case atStart => exact ⟨0, by omega, rfl, HB0, rfl⟩
      case round =>
        obtain ⟨k, hk, rfl, H1, hW⟩ := hrel
        obtain rfl : w1 = wr := hW.symm
        clear HB0 hW
        by_cases hlt : k < xs.length
        · have d1 : decide ((k : Int) < (xs.length : Int)) = true := by simp; omega
          have c1 : w1.cell? ⟨b, o + k, none⟩ = some (.int .i64 (xs.getD k 0)) := (HG1.out.cell (p := ⟨b, o + k, none⟩) hb).trans (HC.out k hlt)
          have hp := pm_bd (HPM.out k hlt)
          have hnn : ¬ N = 0 := by omega
          have hnn2 : ¬ 2 * N = 0 := by omega
          by_cases hd : (xs.getD k 0 - 1) % (2 * N) = 0
          · have H2 : Hid (spA N xs (k + 1) = B) := by have := H1.out; rw [spA_yes hd] at this; exact this
            have hd2 : ((xs.getD k 0 - 1) % (2 * N) != 0) = false := by rw [hd]; rfl
            clear H1 hd
            generalize xs.getD k 0 = p at *
            go_wp2_with fail
            exact ⟨⟨k + 1, by omega, by go_num, H2, by first | rfl | trivial⟩, by simp [intOf]; omega⟩
          · have H2 : Hid (false = B) := by have := H1.out; rw [spA_no hlt hd] at this; exact this
            have hd2 : ((xs.getD k 0 - 1) % (2 * N) != 0) = true := bne_iff_ne.2 hd
            clear H1 hd
            generalize xs.getD k 0 = p at *
            go_wp2_with fail
            go_ret
            exact ⟨ret_bb H2.out, HG1.out⟩
        · have d1 : decide ((k : Int) < (xs.length : Int)) = false := by simp; omega
          have H2 : Hid (true = B) := by have := H1.out; rw [spA_end (by omega)] at this; exact this
          clear H1
          go_wp2_with fail
          go_ret
          exact ⟨ret_bb H2.out, HG1.out⟩
end Go.Proofs.YtinldhoimnbkhaaGreatDoor
/- Proved: whether rows are as they should be, as the model tells it. -/
namespace Go.Proofs.YtinldhoimnbkhaaGreatDoor
open Go.ChangeShapes Go.WideShapes Go.ChangeAt Go.RowKit
open M1
set_option linter.unusedVariables false
set_option linter.unusedSimpArgs false
/-- from place k on each row is a polynomial of its ring -/
def rwA (N : Int) (ps : List Int) (xss : List (List Int)) (k : Nat) : Bool := decide (∀ i, i < ps.length → k ≤ i → polyB (ps.getD i 0) N (xss.getD i []) = true)
theorem rwA_end {N : Int} {ps : List Int} {xss : List (List Int)} {k : Nat} (h : ps.length ≤ k) : rwA N ps xss k = true := decide_eq_true (fun i h1 h2 => by omega)
theorem rwA_no {N : Int} {ps : List Int} {xss : List (List Int)} {k : Nat} (h : k < ps.length) (hk : polyB (ps.getD k 0) N (xss.getD k []) = false) : rwA N ps xss k = false :=
  decide_eq_false (fun f => by rw [f k h (Nat.le_refl _)] at hk; cases hk)
theorem rwA_yes {N : Int} {ps : List Int} {xss : List (List Int)} {k : Nat} (hk : polyB (ps.getD k 0) N (xss.getD k []) = true) : rwA N ps xss k = rwA N ps xss (k + 1) := by
  unfold rwA
  apply decide_eq_decide.2
  constructor
  · exact fun f i h1 h2 => f i h1 (by omega)
  · intro f i h1 h2
    rcases Nat.eq_or_lt_of_le h2 with e | e
    · subst e
      exact hk
    · exact f i h1 e
/-- rows are as they should be beside a good space -/
def rwB (N : Int) (ps : List Int) (xss : List (List Int)) : Bool := decide (xss.length = ps.length) && rwA N ps xss 0
set_option maxRecDepth 100000 in
set_option maxHeartbeats 2000000 in
theorem spec_l5Rows (N : Int) (ps : List Int) (xss : List (List Int)) (v u : Value) (w : World) (hv : Row w v ps) (hu : RowS w u xss) (hl : xss.length ≤ 1048576) (hr : ∀ r ∈ xss, r.length ≤ 1048576) (hs : spB N ps = true) :
    Calls Tryz.prog 56 #[.agg #[.int .i64 N, v], u] w fun e w' => e = .returned (.bool (rwB N ps xss)) ∧ Old w w' := by
  obtain ⟨hz, hbb, hring⟩ := sp_ring hs
  have hlen := (bas_at hbb).1
  have HPM : Hid (∀ k, k < ps.length → pmB (ps.getD k 0) = true) := (bas_at hbb).2
  have HR : Hid (∀ r ∈ xss, r.length ≤ 1048576) := hr
  obtain ⟨a0, cap0, ev⟩ := hv.slice
  obtain ⟨a1, cap1, eu⟩ := hu.slice
  subst ev eu
  have HV : Hid (Row w (.slice a0 ps.length cap0) ps) := hv
  have HU : Hid (RowS w (.slice a1 xss.length cap1) xss) := hu
  have hN : 2 ≤ N ∧ N ≤ 16 := by omega
  clear hv hu hr hring hbb hz hs
  by_cases hn : xss.length = ps.length
  · have HB : Hid (rwA N ps xss 0 = rwB N ps xss) := by show _ = _; unfold rwB; rw [decide_eq_true hn]; rfl
    have dn : ((xss.length : Int) != (ps.length : Int)) = false := by simp; omega
    generalize rwB N ps xss = B at *
    rcases HV.out with ⟨a, cap, e, e2⟩ | ⟨b, o, cap, e, hb, h1, hc⟩
    · subst e2
      simp at hlen
    simp only [Value.slice.injEq, true_and] at e
    obtain ⟨rfl, rfl⟩ := e
    rcases HU.out with ⟨a, cap, e, e2⟩ | ⟨b', o', cap, us, e, hb', h1', hc'⟩
    · subst e2
      simp at hn
      omega
    simp only [Value.slice.injEq, true_and] at e
    obtain ⟨rfl, rfl⟩ := e
    have HC : Hid (∀ j, j < ps.length → w.cell? ⟨b, o + j, none⟩ = some (.int .i64 (ps.getD j 0))) := hc
    have HC' : Hid (∀ j, j < xss.length → w.cell? ⟨b', o' + j, none⟩ = some (us j) ∧ Row w (us j) (xss.getD j [])) := hc'
    have HNN : Hid (xss.length = ps.length) := hn
    clear hc hc' hn
    have HN : Hid (Old w (w.alloc (.cells #[.int .i64 N, .slice (some ⟨b, o, none⟩) ps.length cap0] 54))) := (Old.refl w).alloc _
    go_enter Tryz.func56, Tryz.ntmps56
    go_wp2_with fail
    go_loopw [16] (fun i W => ∃ k : Nat, k ≤ ps.length ∧ i = .int .i64 k ∧ Hid (rwA N ps xss k = B) ∧ Hid (Old (w.alloc (.cells #[.int .i64 N, .slice (some ⟨b, o, none⟩) ps.length cap0] 54)) W)) (fun i _ => ps.length - (intOf i).toNat)
    case atStart => exact ⟨0, by omega, rfl, HB, Old.refl _⟩
    case round =>
      obtain ⟨k, hk, rfl, H1, HG⟩ := hrel
      clear HB
      have HGw : Hid (Old w wr) := Old.trans HN.out HG.out
      have hsw : w.heap.size < wr.heap.size := by have := HG.out.size; simp at this; omega
      by_cases hlt : k < ps.length
      · have d1 : decide ((k : Int) < (ps.length : Int)) = true := by simp; omega
        have hx := HNN.out
        have d2 : decide ((k : Int) < (xss.length : Int)) = true := by simp; omega
        have hkx : k < xss.length := by omega
        have c1 : wr.cell? ⟨b, o + k, none⟩ = some (.int .i64 (ps.getD k 0)) := (HGw.out.cell (p := ⟨b, o + k, none⟩) hb).trans (HC.out k hlt)
        obtain ⟨c2, r2⟩ := HC'.out k hkx
        obtain ⟨x1, y1, e1⟩ := r2.slice
        rw [e1] at c2 r2
        have hp := pm_bd (HPM.out k hlt)
        have hm : xss.getD k [] ∈ xss := by simp [List.getD, hkx]
        have hrl := HR.out _ hm
        have c3 : wr.cell? ⟨b', o' + k, none⟩ = some (.slice x1 (xss.getD k []).length y1) := (HGw.out.cell (p := ⟨b', o' + k, none⟩) hb').trans c2
        have R3 : Hid (Row wr (.slice x1 (xss.getD k []).length y1) (xss.getD k [])) := r2.old HGw.out
        have s0 : wr.cell? ⟨w.heap.size, 0, none⟩ = some (.int .i64 N) := (HG.out.cell (p := ⟨w.heap.size, 0, none⟩) (by simp)).trans (cell_at _ _ _ _ _ rfl)
        have HY : Hid (polyB (ps.getD k 0) N (xss.getD k []) = true → rwA N ps xss (k + 1) = B) := fun h => by have := H1.out; rw [rwA_yes h] at this; exact this
        have HNo : Hid (polyB (ps.getD k 0) N (xss.getD k []) = false → false = B) := fun h => by have := H1.out; rw [rwA_no hlt h] at this; exact this
        generalize xss.getD k [] = xs at *
        generalize ps.getD k 0 = p at *
        have cp := fun W (h : Row W (.slice x1 xs.length y1) xs) => spec_poly p N 0 xs _ W h (by omega) hp
        obtain ⟨q, hq⟩ : ∃ q, polyB p N xs = q := ⟨_, rfl⟩
        rw [hq] at cp HY HNo
        have hbr : b < wr.heap.size := Nat.lt_of_lt_of_le hb HGw.out.size
        have hbr' : b' < wr.heap.size := Nat.lt_of_lt_of_le hb' HGw.out.size
        have HAS : Hid (∀ W' : World, Old wr W' → (W'.cell? ⟨w.heap.size, 0, none⟩ = some (.int .i64 N) ∧ W'.cell? ⟨b', o' + k, none⟩ = some (.slice x1 xs.length y1))) := fun W' g => ⟨(g.cell (p := ⟨w.heap.size, 0, none⟩) hsw).trans s0, (g.cell (p := ⟨b', o' + k, none⟩) hbr').trans c3⟩
        clear H1 c2 r2 e1 hm hq hx
        cases q
        · have H3 : Hid (false = B) := HNo.out rfl
          clear HY HNo
          go_wp2_with fail
          go_region_held3 (fun W' => W'.cell? ⟨w.heap.size, 0, none⟩ = some (.int .i64 N) ∧ W'.cell? ⟨b', o' + k, none⟩ = some (.slice x1 xs.length y1)) (first | with_reducible exact HAS.out _ GE.out | with_reducible exact HAS.out _ (Below.drew (Old.refl wr)) | with_reducible exact HAS.out _ (Old.refl wr)) (first
            | (go_at_call 71; refine (cp _ (R3.out.old (Below.drew (Old.refl wr)))).mono ?_; rintro e w2 ⟨rfl, ge⟩; have GE : Hid (Old wr w2) := Old.trans (Below.drew (Old.refl wr)) ge; clear ge)
            | fail)
          have HG2 : Hid (Old w w2) := Old.trans HGw.out GE.out
          go_wp2_with fail
          go_ret
          exact ⟨ret_bb H3.out, HG2.out⟩
        · have H3 : Hid (rwA N ps xss (k + 1) = B) := HY.out rfl
          clear HY HNo
          go_wp2_with fail
          go_region_held3 (fun W' => W'.cell? ⟨w.heap.size, 0, none⟩ = some (.int .i64 N) ∧ W'.cell? ⟨b', o' + k, none⟩ = some (.slice x1 xs.length y1)) (first | with_reducible exact HAS.out _ GE.out | with_reducible exact HAS.out _ (Below.drew (Old.refl wr)) | with_reducible exact HAS.out _ (Old.refl wr)) (first
            | (go_at_call 71; refine (cp _ (R3.out.old (Below.drew (Old.refl wr)))).mono ?_; rintro e w2 ⟨rfl, ge⟩; have GE : Hid (Old wr w2) := Old.trans (Below.drew (Old.refl wr)) ge; clear ge)
            | fail)
          have HG2 : Hid (Old (w.alloc (.cells #[.int .i64 N, .slice (some ⟨b, o, none⟩) ps.length cap0] 54)) w2) := Old.trans HG.out GE.out
          go_wp2_with fail
          exact ⟨⟨k + 1, by omega, by go_num, H3, HG2⟩, by simp [intOf]; omega⟩
      · have d1 : decide ((k : Int) < (ps.length : Int)) = false := by simp; omega
        have H2 : Hid (true = B) := by have := H1.out; rw [rwA_end (by omega)] at this; exact this
        clear H1
        go_wp2_with fail
        go_ret
        exact ⟨ret_bb H2.out, HGw.out⟩
  · have HB : Hid (false = rwB N ps xss) := by show _ = _; unfold rwB; rw [decide_eq_false hn]; rfl
    have dn : ((xss.length : Int) != (ps.length : Int)) = true := by simp; omega
    generalize rwB N ps xss = B at *
    clear hn
    go_enter Tryz.func56, Tryz.ntmps56
    go_wp2_with fail
    go_ret
    exact ⟨ret_bb HB.out, (Old.refl w).alloc _⟩
end Go.Proofs.YtinldhoimnbkhaaGreatDoor
/- Proved: rows of rows that grow row by row. -/
namespace Go.Proofs.YtinldhoimnbkhaaGreatDoor
open Go.ChangeShapes Go.WideShapes Go.ChangeAt Go.RowKit
open M1
set_option linter.unusedVariables false
set_option linter.unusedSimpArgs false
theorem getD_app1 (yss : List (List Int)) (r : List Int) (j : Nat) (h : j < yss.length) : (yss ++ [r]).getD j [] = yss.getD j [] := by
  simp [List.getD, List.getElem?_append_left h]
theorem getD_app2 (yss : List (List Int)) (r : List Int) : (yss ++ [r]).getD yss.length [] = r := by
  simp [List.getD]
theorem OwS.app {yss : List (List Int)} {wr W : World} {lo : Nat} {x : Value} {r : List Int} {a : Option Addr} {c : Nat} (h : OwS yss wr lo wr.heap.size x) (hlo : lo ≤ wr.heap.size) (g : Old wr W) (o : Own W wr.heap.size (.slice a r.length c) r) (hc : r.length ≤ c) :
    ∃ vs, W.ownsRow lo 22 1 x yss.length vs ∧ (∀ v' w', w'.ownsRow lo 22 1 v' (yss.length + 1) (vs ++ [.slice a r.length c]) → W.grownBy w' x.ownBlock → (v'.ownBlock = x.ownBlock ∨ v'.ownBlock = some W.heap.size) → OwS (yss ++ [r]) w' lo w'.heap.size v') := by
  have key : ∃ vs : List Value, W.ownsRow lo 22 1 x yss.length vs ∧ vs.length = yss.length ∧ (∀ p, x.ownBlock = some p → p < wr.heap.size)
      ∧ (∀ j, j < yss.length → ∃ a c, vs[j]? = some (.slice a (yss.getD j []).length c) ∧ (yss.getD j []).length ≤ c ∧ Own wr lo (.slice a (yss.getD j []).length c) (yss.getD j []) ∧ (∀ b, (Value.slice a (yss.getD j []).length c).ownBlock = some b → x.ownBlock ≠ some b))
      ∧ (∀ (i j : Nat) (x y : Value) (b : Nat), i < j → vs[i]? = some x → vs[j]? = some y → x.ownBlock = some b → y.ownBlock = some b → False) := by
    obtain ⟨hh, ⟨e, e2⟩ | ⟨p, cap, vs, e, hcap, hl, hhi, ho, hvl, hj, hd⟩⟩ := h
    · subst e e2
      refine ⟨[], ⟨rfl, Or.inl ⟨rfl, rfl⟩⟩, rfl, (fun p hp => by cases hp), (fun j hj => by simp at hj), (fun i j x y b hij hx => by simp at hx)⟩
    · subst e
      refine ⟨vs, ?_, hvl, fun q hq => ?_, fun j hjl => ?_, hd⟩
      · refine ⟨ho.1, ?_⟩
        rcases ho.2 with ⟨hn, _⟩ | ⟨p', cap', cur, e', hb', hgg, rest⟩
        · cases hn
        · refine .inr ⟨p', cap', cur, e', hb', ?_, rest⟩
          rw [g.block p' (Array.getElem?_eq_some_iff.1 hgg).1]
          exact hgg
      · simp only [Value.ownBlock, Option.some.injEq] at hq
        omega
      · obtain ⟨a2, c2, e3, hc2, oj, hb2⟩ := hj j hjl
        refine ⟨a2, c2, e3, hc2, oj.1, fun b hb hx => hb2 b hb ?_⟩
        simp only [Value.ownBlock, Option.some.injEq] at hx
        exact hx.symm
  obtain ⟨vs, ho, hvl, hp, hj, hd⟩ := key
  refine ⟨vs, ho, fun v' w' ho' gr hv' => ?_⟩
  have hsz := g.size
  have hsz' := gr.size
  have hrow : ∀ j, j < yss.length → ∃ a c, vs[j]? = some (.slice a (yss.getD j []).length c) ∧ (yss.getD j []).length ≤ c ∧ Own w' lo (.slice a (yss.getD j []).length c) (yss.getD j []) ∧ (∀ b, (Value.slice a (yss.getD j []).length c).ownBlock = some b → b < wr.heap.size ∧ v'.ownBlock ≠ some b) := fun j hjl => by
    obtain ⟨a2, c2, e3, hc2, oj, hb2⟩ := hj j hjl
    refine ⟨a2, c2, e3, hc2, Own.by_ (oj.old g) gr (fun q y hx hy hxy => ?_), fun b hb => ⟨(oj.lt b hb).2, fun hx => ?_⟩⟩
    · subst hxy
      exact hb2 q hx hy
    · rcases hv' with e | e
      · exact hb2 b hb (e.symm.trans hx)
      · rw [e] at hx
        have := (oj.lt b hb).2
        simp only [Option.some.injEq] at hx
        omega
  have hnew : Own w' lo (.slice a r.length c) r := Own.low (Own.by_ o gr (fun q y hx hy hxy => by
    subst hxy
    have h1 := (o.lt q hx).1
    have h2 := hp q hy
    omega)) hlo
  have hnewb : ∀ b, (Value.slice a r.length c).ownBlock = some b → wr.heap.size ≤ b ∧ b < W.heap.size ∧ v'.ownBlock ≠ some b := fun b hb => by
    obtain ⟨h1, h2⟩ := o.lt b hb
    refine ⟨h1, h2, fun hx => ?_⟩
    rcases hv' with e | e
    · have := hp b (e.symm.trans hx)
      omega
    · rw [e] at hx
      simp only [Option.some.injEq] at hx
      omega
  have ho2 := ho'
  rcases ho'.2 with ⟨_, h0⟩ | ⟨p', cap', cur, e', hb', hgg, hnc, rest⟩
  · omega
  subst e'
  have hlt' : p' < w'.heap.size := (Array.getElem?_eq_some_iff.1 hgg).1
  refine ⟨Nat.le_refl _, Or.inr ⟨p', cap', vs ++ [.slice a r.length c], by simp, by simpa using hnc, hb', hlt', by simpa using ho2, by simp [hvl], fun j hjl => ?_, fun i j x y b hij hx hy hbx hby => ?_⟩⟩
  · simp at hjl
    rcases Nat.lt_or_ge j yss.length with h1 | h1
    · rw [getD_app1 yss r j h1]
      obtain ⟨a2, c2, e3, hc2, oj, hb2⟩ := hrow j h1
      refine ⟨a2, c2, by rw [List.getElem?_append_left (by omega)]; exact e3, hc2, ⟨oj, Nat.le_refl _, fun b hb => (oj.lt b hb).2⟩, fun b hb hx => (hb2 b hb).2 ?_⟩
      rw [hx]
      rfl
    · obtain rfl : j = yss.length := by omega
      rw [getD_app2 yss r]
      refine ⟨a, c, by rw [← hvl]; simp, hc, ⟨hnew, Nat.le_refl _, fun b hb => (hnew.lt b hb).2⟩, fun b hb hx => (hnewb b hb).2.2 ?_⟩
      rw [hx]
      rfl
  · have hjl : j < vs.length + 1 := by
      have := (List.getElem?_eq_some_iff.1 hy).1
      simpa using this
    rcases Nat.lt_or_ge j vs.length with h1 | h1
    · rw [List.getElem?_append_left (by omega)] at hx hy
      exact hd i j x y b hij hx hy hbx hby
    · obtain rfl : j = vs.length := by omega
      rw [List.getElem?_append_left (by omega)] at hx
      simp at hy
      subst hy
      obtain ⟨a2, c2, e3, hc2, oj, hb2⟩ := hrow i (by omega)
      rw [e3] at hx
      obtain rfl := Option.some.inj hx
      have h3 := (hb2 b hbx).1
      have h4 := (hnewb b hby).1
      omega
/-- two rows, number by number -/
def pairR (f : Int → Int → Int → Int) (p : Int) (xs ys : List Int) : List Int := (List.range xs.length).map fun i => f p (xs.getD i 0) (ys.getD i 0)
def pairL (f : Int → Int → Int → Int) (ps : List Int) (xss yss : List (List Int)) : List (List Int) := (List.range ps.length).map fun k => pairR f (ps.getD k 0) (xss.getD k []) (yss.getD k [])
theorem pairR_len (f : Int → Int → Int → Int) (p : Int) (xs ys : List Int) : (pairR f p xs ys).length = xs.length := by simp [pairR]
theorem pairR_get (f : Int → Int → Int → Int) (p : Int) (xs ys : List Int) (i : Nat) (h : i < xs.length) : (pairR f p xs ys).getD i 0 = f p (xs.getD i 0) (ys.getD i 0) := by simp [pairR, List.getD, h]
theorem pairL_len (f : Int → Int → Int → Int) (ps : List Int) (xss yss : List (List Int)) : (pairL f ps xss yss).length = ps.length := by simp [pairL]
theorem pairL_get (f : Int → Int → Int → Int) (ps : List Int) (xss yss : List (List Int)) (k : Nat) (h : k < ps.length) : (pairL f ps xss yss).getD k [] = pairR f (ps.getD k 0) (xss.getD k []) (yss.getD k []) := by simp [pairL, List.getD, h]
theorem take_succL (xs : List (List Int)) (k : Nat) (h : k < xs.length) : xs.take (k + 1) = xs.take k ++ [xs.getD k []] := by
  rw [List.take_add_one]
  simp [List.getD, h]
def addF (p x y : Int) : Int := (x + y) % p
end Go.Proofs.YtinldhoimnbkhaaGreatDoor
/- Proved: rows added, as the model makes them. -/
namespace Go.Proofs.YtinldhoimnbkhaaGreatDoor
open Go.ChangeShapes Go.WideShapes Go.ChangeAt Go.RowKit
open M1
set_option linter.unusedVariables false
set_option linter.unusedSimpArgs false
theorem one_sl (a : Option Addr) (n c : Nat) : ∀ u ∈ [Value.slice a n c], u.oneCell' = true := by simp [Value.oneCell']
set_option maxRecDepth 100000 in
set_option maxHeartbeats 8000000 in
theorem spec_l5Add (N : Int) (ps : List Int) (xss yss : List (List Int)) (v u1 u2 : Value) (w : World) (hv : Row w v ps) (h1 : RowS w u1 xss) (h2 : RowS w u2 yss) (hps : 1 ≤ ps.length ∧ ps.length ≤ 6) (hx : xss.length = ps.length) (hy : yss.length = ps.length)
    (hr : ∀ k, k < ps.length → (xss.getD k []).length ≤ 16 ∧ (yss.getD k []).length = (xss.getD k []).length ∧ (2 ≤ ps.getD k 0 ∧ ps.getD k 0 ≤ 268435456) ∧ ∀ i, i < (xss.getD k []).length → (0 ≤ (xss.getD k []).getD i 0 ∧ (xss.getD k []).getD i 0 ≤ 268435456) ∧ (0 ≤ (yss.getD k []).getD i 0 ∧ (yss.getD k []).getD i 0 ≤ 268435456)) :
    Calls Tryz.prog 29 #[.agg #[.int .i64 N, v], u1, u2] w fun e w' => ∃ v', e = .returned v' ∧ Old w w' ∧ OwS (pairL addF ps xss yss) w' w.heap.size w'.heap.size v' := by
  obtain ⟨i0, hi, hz0, hz1, hz2⟩ := info_parts Tryz.infoInt
  obtain ⟨j0, ji, jz0, jz1, jz2⟩ := info_parts Tryz.infoInts
  have HR : Hid (∀ k, k < ps.length → (xss.getD k []).length ≤ 16 ∧ (yss.getD k []).length = (xss.getD k []).length ∧ (2 ≤ ps.getD k 0 ∧ ps.getD k 0 ≤ 268435456) ∧ ∀ i, i < (xss.getD k []).length → (0 ≤ (xss.getD k []).getD i 0 ∧ (xss.getD k []).getD i 0 ≤ 268435456) ∧ (0 ≤ (yss.getD k []).getD i 0 ∧ (yss.getD k []).getD i 0 ≤ 268435456)) := hr
  obtain ⟨a0, cap0, ev⟩ := hv.slice
  obtain ⟨a1, cap1, e1⟩ := h1.slice
  obtain ⟨a2, cap2, e2⟩ := h2.slice
  rw [hx] at e1
  rw [hy] at e2
  subst ev e1 e2
  rcases hv with ⟨a, cap, e, e'⟩ | ⟨b, o, cap, e, hb, h0, hc⟩
  · subst e'
    simp at hps
  rcases h1 with ⟨a, cap, e, e'⟩ | ⟨b1, o1, cap, us1, e_1, hb1, h01, hc1⟩
  · subst e'
    simp at hx
    omega
  rcases h2 with ⟨a, cap, e, e'⟩ | ⟨b2, o2, cap, us2, e_2, hb2, h02, hc2⟩
  · subst e'
    simp at hy
    omega
  simp only [Value.slice.injEq, true_and] at e e_1 e_2
  obtain ⟨rfl, rfl⟩ := e
  obtain ⟨rfl, hq1, rfl⟩ := e_1
  obtain ⟨rfl, hq2, rfl⟩ := e_2
  have HC : Hid (∀ j, j < ps.length → w.cell? ⟨b, o + j, none⟩ = some (.int .i64 (ps.getD j 0))) := hc
  have HC1 : Hid (∀ j, j < ps.length → w.cell? ⟨b1, o1 + j, none⟩ = some (us1 j) ∧ Row w (us1 j) (xss.getD j [])) := fun j hj => hc1 j (by omega)
  have HC2 : Hid (∀ j, j < ps.length → w.cell? ⟨b2, o2 + j, none⟩ = some (us2 j) ∧ Row w (us2 j) (yss.getD j [])) := fun j hj => hc2 j (by omega)
  have HZ : Hid (∀ k, k < ps.length → (pairL addF ps xss yss).take (k + 1) = (pairL addF ps xss yss).take k ++ [pairR addF (ps.getD k 0) (xss.getD k []) (yss.getD k [])]) := fun k hk => by
    rw [take_succL _ _ (by rw [pairL_len]; exact hk), pairL_get _ _ _ _ _ hk]
  have HZL : Hid ((pairL addF ps xss yss).length = ps.length) := pairL_len _ _ _ _
  generalize pairL addF ps xss yss = zss at *
  clear hc hc1 hc2 hr hx hy hq1 hq2
  have HAO : Hid (Old w (w.alloc (.cells #[.int .i64 N, .slice (some ⟨b, o, none⟩) ps.length cap0] 54))) := (Old.refl w).alloc _
  go_enter Tryz.func29, Tryz.ntmps29
  go_wp2_with fail
  go_loopw [7, 15] (fun x i W => ∃ (k : Nat) (a : Option Addr) (cap : Nat), k ≤ ps.length ∧ i = .int .i64 k ∧ x = .slice a k cap ∧ Hid (OwS (zss.take k) W w.heap.size W.heap.size (.slice a k cap)) ∧ Hid (Old w W)) (fun _ i _ => ps.length - (intOf i).toNat)
  case atStart => exact ⟨0, none, 0, by omega, rfl, rfl, ⟨Nat.le_refl _, Or.inl ⟨rfl, by simp⟩⟩, HAO⟩
  case round =>
    obtain ⟨k, a, cap, hk, rfl, rfl, HO, HG⟩ := hrel
    have hsr := HG.out.size
    by_cases hlt : k < ps.length
    · have d1 : decide ((k : Int) < (ps.length : Int)) = true := by simp; omega
      obtain ⟨r1, r2, r3, r4⟩ := HR.out k hlt
      obtain ⟨p1, p2⟩ := HC1.out k hlt
      obtain ⟨q1, q2⟩ := HC2.out k hlt
      obtain ⟨x1, y1, f1⟩ := p2.slice
      obtain ⟨x2, y2, f2⟩ := q2.slice
      rw [f1] at p1 p2
      rw [f2, r2] at q1
      rw [f2, r2] at q2
      have c0 : wr.cell? ⟨b, o + k, none⟩ = some (.int .i64 (ps.getD k 0)) := (HG.out.cell (p := ⟨b, o + k, none⟩) hb).trans (HC.out k hlt)
      have c1 : wr.cell? ⟨b1, o1 + k, none⟩ = some (.slice x1 (xss.getD k []).length y1) := (HG.out.cell (p := ⟨b1, o1 + k, none⟩) hb1).trans p1
      have R1 : Hid (Row wr (.slice x1 (xss.getD k []).length y1) (xss.getD k [])) := p2.old HG.out
      have c2 : wr.cell? ⟨b2, o2 + k, none⟩ = some (.slice x2 (xss.getD k []).length y2) := (HG.out.cell (p := ⟨b2, o2 + k, none⟩) hb2).trans q1
      have R2 : Hid (Row wr (.slice x2 (xss.getD k []).length y2) (yss.getD k [])) := q2.old HG.out
      have HZk := HZ.out k hlt
      have HB : Hid (∀ i, i < (xss.getD k []).length → (0 ≤ (xss.getD k []).getD i 0 ∧ (xss.getD k []).getD i 0 ≤ 268435456) ∧ (0 ≤ (yss.getD k []).getD i 0 ∧ (yss.getD k []).getD i 0 ≤ 268435456)) := r4
      have HT : Hid (∀ i, i < (xss.getD k []).length → (pairR addF (ps.getD k 0) (xss.getD k []) (yss.getD k [])).take (i + 1) = (pairR addF (ps.getD k 0) (xss.getD k []) (yss.getD k [])).take i ++ [addF (ps.getD k 0) ((xss.getD k []).getD i 0) ((yss.getD k []).getD i 0)]) := fun i hi' => by
        rw [take_succI _ _ (by rw [pairR_len]; exact hi'), pairR_get _ _ _ _ _ hi']
      have HTL : Hid ((pairR addF (ps.getD k 0) (xss.getD k []) (yss.getD k [])).length = (xss.getD k []).length) := pairR_len _ _ _ _
      have HZK : Hid (zss.take (k + 1) = zss.take k ++ [pairR addF (ps.getD k 0) (xss.getD k []) (yss.getD k [])]) := HZk
      have hbr : b < wr.heap.size := by omega
      have hbr1 : b1 < wr.heap.size := by omega
      have hbr2 : b2 < wr.heap.size := by omega
      have HYL : Hid ((yss.getD k []).length = (xss.getD k []).length) := r2
      clear HZk r4 r2 p1 p2 q1 q2 f1 f2
      generalize pairR addF (ps.getD k 0) (xss.getD k []) (yss.getD k []) = zs at *
      generalize xss.getD k [] = xs at *
      generalize yss.getD k [] = ys at *
      generalize ps.getD k 0 = p at *
      have HEMB : Hid (∀ (W : World) (ra : Option Addr) (rc : Nat), Old wr W → Own W wr.heap.size (.slice ra zs.length rc) zs → zs.length ≤ rc → ∃ vs, W.ownsRow w.heap.size 22 1 (.slice a k cap) k vs ∧ (∀ v' w', w'.ownsRow w.heap.size 22 1 v' (k + 1) (vs ++ [.slice ra zs.length rc]) → W.grownBy w' (Value.slice a k cap).ownBlock → (v'.ownBlock = (Value.slice a k cap).ownBlock ∨ v'.ownBlock = some W.heap.size) → OwS (zss.take (k + 1)) w' w.heap.size w'.heap.size v')) := fun W ra rc g o hc => by
        have hl : (zss.take k).length = k := by rw [List.length_take]; have := HZL.out; omega
        have := OwS.app HO.out hsr g o hc
        rw [hl] at this
        rw [HZK.out]
        exact this
      have HOB : Hid (∀ p, (Value.slice a k cap).ownBlock = some p → w.heap.size ≤ p) := fun p hp => by
        obtain ⟨hh, ⟨e, e2⟩ | ⟨p', cap', vs, e, hcap, hl, hhi, _⟩⟩ := HO.out
        · rw [e] at hp
          cases hp
        · rw [e] at hp
          simp only [Value.ownBlock, Option.some.injEq] at hp
          omega
      rename World => wq
      go_wp2_with fail
      go_loopw [10, 25] (fun x i W => ∃ (j : Nat) (a : Option Addr) (cap : Nat), j ≤ xs.length ∧ i = .int .i64 j ∧ x = .slice a j cap ∧ Hid (Own W wq.heap.size (.slice a j cap) (zs.take j)) ∧ Hid (Old wq W)) (fun _ i _ => xs.length - (intOf i).toNat)
      case atStart => exact ⟨0, none, 0, by omega, rfl, rfl, (by exact own_nil _ _), Old.refl _⟩
      case round =>
        obtain ⟨j, ra, rc, hj, rfl, rfl, HO2, HG2⟩ := hrel
        have hs2 := HG2.out.size
        by_cases hjl : j < xs.length
        · have d2 : decide ((j : Int) < (xs.length : Int)) = true := by simp; omega
          obtain ⟨⟨bx1, bx2⟩, ⟨by1, by2⟩⟩ := HB.out j hjl
          have HT1 := HT.out j hjl
          have hyl := HYL.out
          rcases R1.out with ⟨_, _, e, e'⟩ | ⟨b3, o3, cap3, e, hb3, h03, hc3⟩
          · subst e'
            simp at hjl
          rcases R2.out with ⟨_, _, e_, e'⟩ | ⟨b4, o4, cap4, e_, hb4, h04, hc4⟩
          · subst e'
            simp at hyl
            omega
          simp only [Value.slice.injEq, true_and] at e e_
          obtain ⟨rfl, rfl⟩ := e
          obtain ⟨rfl, hq3, rfl⟩ := e_
          have k1 : wr.cell? ⟨b1, o1 + k, none⟩ = some (.slice (some ⟨b3, o3, none⟩) xs.length y1) := (HG2.out.cell (p := ⟨b1, o1 + k, none⟩) hbr1).trans c1
          have k2 : wr.cell? ⟨b2, o2 + k, none⟩ = some (.slice (some ⟨b4, o4, none⟩) xs.length y2) := (HG2.out.cell (p := ⟨b2, o2 + k, none⟩) hbr2).trans c2
          have k3 : wr.cell? ⟨b3, o3 + j, none⟩ = some (.int .i64 (xs.getD j 0)) := (HG2.out.cell (p := ⟨b3, o3 + j, none⟩) hb3).trans (hc3 j hjl)
          have k4 : wr.cell? ⟨b4, o4 + j, none⟩ = some (.int .i64 (ys.getD j 0)) := (HG2.out.cell (p := ⟨b4, o4 + j, none⟩) hb4).trans (hc4 j (by omega))
          have htk : (zs.take j).length = j := by rw [List.length_take]; have := HTL.out; omega
          have HW1 : Hid (∀ d o, Own ((wr.alloc o).drewN d) wq.heap.size (.slice ra j rc) (zs.take j)) := fun d o => HO2.out.old (((Old.refl wr).alloc o).drewN d)
          have HG5 : Hid (∀ d o, Old wq ((wr.alloc o).drewN d)) := fun d o => (HG2.out.alloc o).drewN d
          have HT2 : Hid (zs.take (j + 1) = zs.take j ++ [addF p (xs.getD j 0) (ys.getD j 0)]) := HT1
          clear hc3 hc4 HT1 hyl hq3
          have hp0 : ¬ p = 0 := by omega
          generalize xs.getD j 0 = x at *
          generalize ys.getD j 0 = y at *
          obtain ⟨q, hq⟩ : ∃ q, addF p x y = q := ⟨_, rfl⟩
          have e3 : (IntKind.i64.wrap (x + y)).tmod p = q := by
            rw [IntKind.wrap_i64]
            rw [show (x + y + 9223372036854775808) % 18446744073709551616 - 9223372036854775808 = x + y by omega]
            rw [Int.tmod_eq_emod_of_nonneg (by omega)]
            exact hq
          have e4 : (x + y).tmod p = q := by
            rw [Int.tmod_eq_emod_of_nonneg (by omega)]
            exact hq
          have hqb : 0 ≤ q ∧ q < 268435456 := by
            have g1 := Int.emod_nonneg (x + y) (show p ≠ 0 by omega)
            have g2 := Int.emod_lt_of_pos (x + y) (show 0 < p by omega)
            unfold addF at hq
            omega
          rw [hq] at HT2
          clear hq
          go_wp2_with fail
          go_region_law (refine step_append_lies _ rfl (.tmp 28) (.tmp 46) 22 rfl wq.heap.size 3 i0 (.int .i64 0) 1 8 Tryz.underlying22 hi hz0 hz1 hz2 rfl (by decide) (.slice ra j rc) j ((zs.take j).map (Value.int .i64)) (by simp [Act.eval, Act.put]) (by have := HW1.out 1 (.cells #[.int .i64 q] 3); unfold Own at this; rw [htk] at this; exact this) ⟨wr.heap.size, 0, none⟩ 1 1 [.int .i64 q] (by simp [Act.eval, Act.put]) rfl (one_cell _ _ _) (one_one _) (by omega) (by unfold maxLen; omega) (by omega) (by simp; omega) _ rfl ?_; intro g5 cap5 w5 o5 gr5 x5 lt5; have O5 : Hid (Own w5 wq.heap.size (.slice (some ⟨g5, 0, none⟩) (j + 1) cap5) (zs.take (j + 1))) := (by have := HT2.out; show Own _ _ _ _; rw [this]; exact Own.snoc (by rw [htk]; exact o5)); have G5 : Hid (Old wq w5) := Below.grown (HG5.out 1 (.cells #[.int .i64 q] 3)) gr5 (HG5.out 1 (.cells #[.int .i64 q] 3)).size (fun j hj => (HO2.out.lt j hj).1); clear o5 gr5 x5 lt5)
          all_goals
            go_wp2_with fail
            exact ⟨⟨j + 1, _, _, by omega, by go_num, rfl, O5, G5⟩, by simp [intOf]; omega⟩
        · have d2 : decide ((j : Int) < (xs.length : Int)) = false := by simp; omega
          obtain rfl : j = xs.length := by omega
          have hzl := HTL.out
          have own2 := HO2.out
          rw [List.take_of_length_le (by omega)] at own2
          have hrc : xs.length ≤ rc := by
            rcases own2.2 with ⟨e, hn⟩ | ⟨_, _, _, e, _, _, hn, _⟩
            · simp only [Value.slice.injEq] at e
              omega
            · simp only [Value.slice.injEq, true_and] at e
              omega
          rw [← hzl] at own2 hrc
          obtain ⟨vs, ov, hem⟩ := HEMB.out (wr.alloc (.cells #[.slice ra zs.length rc] 22)) ra rc (HG2.out.alloc _) (own2.alloc _) hrc
          rw [hzl] at ov hem
          have OV : Hid ((wr.alloc (.cells #[.slice ra xs.length rc] 22)).ownsRow w.heap.size 22 1 (.slice a k cap) k vs) := ov
          have HEM : Hid (∀ v' w', w'.ownsRow w.heap.size 22 1 v' (k + 1) (vs ++ [.slice ra xs.length rc]) → (wr.alloc (.cells #[.slice ra xs.length rc] 22)).grownBy w' (Value.slice a k cap).ownBlock → (v'.ownBlock = (Value.slice a k cap).ownBlock ∨ v'.ownBlock = some (wr.alloc (.cells #[.slice ra xs.length rc] 22)).heap.size) → OwS (zss.take (k + 1)) w' w.heap.size w'.heap.size v') := hem
          have HWW : Hid (Old w (wr.alloc (.cells #[.slice ra xs.length rc] 22))) := (Old.trans HG.out HG2.out).alloc _
          clear own2 ov hem hzl hrc HO2
          go_wp2_with (at_builtin; go_loud (refine wpList_append_own_at _ rfl _ _ 50 rfl w.heap.size 22 j0 (.slice none 0 0) 1 24 Tryz.underlying50 ji jz0 jz1 jz2 rfl (by decide) _ _ _ rfl OV.out ⟨wr.heap.size, 0, none⟩ 1 1 [.slice ra xs.length rc] rfl rfl (one_cell _ _ _) (one_sl _ _ _) (by unfold maxLen; omega) (by omega) (by simp; omega) ?_; intro v5 w5 o5 g5 x5 l5; have O5 : Hid (OwS (zss.take (k + 1)) w5 w.heap.size w5.heap.size v5) := HEM.out v5 w5 o5 g5 l5; have G5 : Hid (Old w w5) := Below.grown HWW.out g5 HWW.out.size (fun j hj => HOB.out j hj); clear o5 g5 x5 l5))
          have hl1 : (zss.take (k + 1)).length = k + 1 := by rw [List.length_take]; have := HZL.out; omega
          obtain ⟨a5, cap5, e5⟩ := O5.out.slice
          subst e5
          rw [hl1] at O5 ⊢
          exact ⟨⟨k + 1, _, _, by omega, by go_num, rfl, O5, G5⟩, by simp [intOf]; omega⟩
    · have d1 : decide ((k : Int) < (ps.length : Int)) = false := by simp; omega
      obtain rfl : k = ps.length := by omega
      have HF : Hid (OwS zss wr w.heap.size wr.heap.size (.slice a ps.length cap)) := by
        have := HO.out
        rw [List.take_of_length_le (by have := HZL.out; omega)] at this
        exact this
      go_wp2_with fail
      go_ret
      exact ⟨_, rfl, HG.out, HF.out⟩
end Go.Proofs.YtinldhoimnbkhaaGreatDoor
