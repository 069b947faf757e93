/- Proved: several texts in one: what each proves is said ahead of it. -/
import Derived.Test.YtfgooclnohnkmaaGreatDoorWp17
import Derived.Test.YtfgooclnohnkmaaGreatDoorWp18
import Derived.Test.YtfgooclnohnkmaaGreatDoorWp19
import Derived.Test.YtfgooclnohnkmaaGreatDoorWp20
import Derived.Test.YtfgooclnohnkmaaGreatDoorWp11
import Derived.Test.YtfgooclnohnkmaaGreatDoorSzAdd
import Derived.Test.YtfgooclnohnkmaaGreatDoorWp10
import Derived.Deep.RegionHeld3
import Derived.Deep.DeepCutAuto
import Derived.ScopeJumps
import Derived.Test.YtfgooclnohnkmaaGreatDoorWp12
import Derived.Test.YtfgooclnohnkmaaGreatDoorWp13
/- Proved: rows brought ahead and back: what the program and the model make of each. -/
namespace Go.Proofs.YtfgooclnohnkmaaGreatDoor
open Go.ChangeShapes Go.WideShapes Go.ChangeAt Go.RowKit
set_option linter.unusedVariables false
set_option linter.unusedSimpArgs false
open M1
def mkL (f : Int → Int → List Int → List Int) (ps : List Int) (Rf : Nat → Int) (xss : List (List Int)) : List (List Int) := (List.range ps.length).map fun k => f (ps.getD k 0) (Rf k) (xss.getD k [])
theorem mkL_len (f : Int → Int → List Int → List Int) (ps : List Int) (Rf : Nat → Int) (xss : List (List Int)) : (mkL f ps Rf xss).length = ps.length := by simp [mkL]
theorem mkL_get (f : Int → Int → List Int → List Int) (ps : List Int) (Rf : Nat → Int) (xss : List (List Int)) (k : Nat) (hk : k < ps.length) : (mkL f ps Rf xss).getD k [] = f (ps.getD k 0) (Rf k) (xss.getD k []) := by
  simp [mkL, List.getD, hk]
def bkZ (N p r : Int) (xs : List Int) : List Int := toZ (invL p.toNat N.toNat r.toNat (xs.map Int.toNat))
def backF (N : Int) (a : Bool) (p r : Int) (xs : List Int) : List Int := if a then bkZ N p r xs else xs
theorem toZ_back (ys : List Nat) : (toZ ys).map Int.toNat = ys := by
  rw [toZ, List.map_map]
  refine (List.map_congr_left fun x hx => ?_).trans (List.map_id ys)
  simp
theorem gr_poly {N : Int} {ps : List Int} {xss : List (List Int)} (h : grB N ps xss = true) : xss.length = ps.length ∧ ∀ k, k < ps.length → RingOk (ps.getD k 0) N ∧ polyB (ps.getD k 0) N (xss.getD k []) = true := by
  unfold grB rwB rwA at h
  rw [Bool.and_eq_true, Bool.and_eq_true, decide_eq_true_eq, decide_eq_true_eq] at h
  obtain ⟨h1, h2, h3⟩ := h
  obtain ⟨s1, s2, s3⟩ := sp_ring h1
  refine ⟨h2, fun k hk => ⟨s3 k hk, ?_⟩⟩
  first
  | exact h3 k (by omega) (by omega)
  | exact h3 k (by omega)
/-- a row of good rows, opened -/
theorem row_open {N : Int} {ps : List Int} {xss : List (List Int)} {Rf : Nat → Int} (hR : ∀ k, RingOk (ps.getD k 0) N → ((0 ≤ Rf k ∧ Rf k < ps.getD k 0) ∧ (∀ W, PrsW W → TabW W → Calls Tryz.prog 163 #[.int .i64 (ps.getD k 0), .int .i64 N] W fun e w' => e = .returned (.tuple #[.agg #[.int .i64 (ps.getD k 0), .int .i64 N, .int .i64 (Rf k)], .bool true]) ∧ Old W w')) ∧ (∀ W, Calls Tryz.prog 185 #[.int .i64 (ps.getD k 0), .int .i64 N] W fun e w' => e = .returned (.tuple #[.agg #[.int .i64 (ps.getD k 0), .int .i64 N, .int .i64 (Rf k)], .bool true]) ∧ Old W w') ∧ ∃ P M R : Nat, ps.getD k 0 = P ∧ N = M ∧ Rf k = R ∧ R < P ∧ RingOk P M ∧ (F1.Pr P → Rt P (2 * M) R)) (h : grB N ps xss = true) (k : Nat) (hk : k < ps.length) :
    ∃ (P M R : Nat) (ys : List Nat), ps.getD k 0 = P ∧ N = M ∧ Rf k = R ∧ xss.getD k [] = toZ ys ∧ R < P ∧ (2 ≤ P ∧ P ≤ 268435456) ∧ Sz4 M ∧ ys.length = M ∧ (∀ y ∈ ys, y < P) ∧ Cg P ((R : Int) ^ (2 * M)) 1 ∧ Cg P ((R : Int) ^ M) (-1) := by
  obtain ⟨h1, h2⟩ := gr_poly h
  obtain ⟨h3, h4⟩ := h2 k hk
  obtain ⟨_, _, P, M, R, e1, e2, e3, hlt, hok, hrt⟩ := hR k h3
  rw [e1, e2] at h4
  obtain ⟨ys, e4, la, ha⟩ := polyB_yes h4
  have b1 := modB_yes hok.md
  have b2 := hok.sz
  have hP : 2 ≤ P ∧ P ≤ 268435456 := by omega
  have hS : Sz4 M := by omega
  obtain ⟨r1, r2⟩ := (hrt (ring_pr hok)).cg hP.1
  exact ⟨P, M, R, ys, e1, e2, e3, e4, hlt, hP, hS, la, ha, r1, r2⟩
theorem bkZ_toZ (P M R : Nat) (ys : List Nat) : bkZ M P R (toZ ys) = toZ (invL P M R ys) := by
  unfold bkZ
  rw [toZ_back]
  simp
theorem sz4_bd {M : Nat} (h : Sz4 M) : 2 ≤ M ∧ M ≤ 16 := by
  unfold Sz4 at h
  omega
theorem backF_len (N : Int) (a : Bool) (ps : List Int) (xss : List (List Int)) (Rf : Nat → Int) (hR : ∀ k, RingOk (ps.getD k 0) N → ((0 ≤ Rf k ∧ Rf k < ps.getD k 0) ∧ (∀ W, PrsW W → TabW W → Calls Tryz.prog 163 #[.int .i64 (ps.getD k 0), .int .i64 N] W fun e w' => e = .returned (.tuple #[.agg #[.int .i64 (ps.getD k 0), .int .i64 N, .int .i64 (Rf k)], .bool true]) ∧ Old W w')) ∧ (∀ W, Calls Tryz.prog 185 #[.int .i64 (ps.getD k 0), .int .i64 N] W fun e w' => e = .returned (.tuple #[.agg #[.int .i64 (ps.getD k 0), .int .i64 N, .int .i64 (Rf k)], .bool true]) ∧ Old W w') ∧ ∃ P M R : Nat, ps.getD k 0 = P ∧ N = M ∧ Rf k = R ∧ R < P ∧ RingOk P M ∧ (F1.Pr P → Rt P (2 * M) R)) (h : grB N ps xss = true) (k : Nat) (hk : k < ps.length) : (((backF N a) (ps.getD k 0) (Rf k) (xss.getD k [])).length : Int) = N := by
  obtain ⟨P, M, R, ys, e1, e2, e3, e4, hlt, hP2, hS, la, ha, r1, r2⟩ := row_open hR h k hk
  rw [e1, e3, e4, e2]
  unfold backF
  split
  all_goals first | (rw [toZ_len, la]) | (rw [bkZ_toZ, toZ_len, invL_len]; omega) | (rw [bkZ_toZ, toZ_len, invL_len])
theorem spec_l5Back_any (N : Int) (ps : List Int) (a : Bool) (xss : List (List Int)) (Rf : Nat → Int) (hR : ∀ k, RingOk (ps.getD k 0) N → ((0 ≤ Rf k ∧ Rf k < ps.getD k 0) ∧ (∀ W, PrsW W → TabW W → Calls Tryz.prog 163 #[.int .i64 (ps.getD k 0), .int .i64 N] W fun e w' => e = .returned (.tuple #[.agg #[.int .i64 (ps.getD k 0), .int .i64 N, .int .i64 (Rf k)], .bool true]) ∧ Old W w')) ∧ (∀ W, Calls Tryz.prog 185 #[.int .i64 (ps.getD k 0), .int .i64 N] W fun e w' => e = .returned (.tuple #[.agg #[.int .i64 (ps.getD k 0), .int .i64 N, .int .i64 (Rf k)], .bool true]) ∧ Old W w') ∧ ∃ P M R : Nat, ps.getD k 0 = P ∧ N = M ∧ Rf k = R ∧ R < P ∧ RingOk P M ∧ (F1.Pr P → Rt P (2 * M) R)) (v u1 : Value) (w : World) (hv : Row w v ps) (h1 : RowS w u1 xss) (h : grB N ps xss = true) :
    Calls Tryz.prog 85 #[.agg #[.int .i64 N, v], .agg #[.bool a, u1]] w fun e w' => ∃ v', e = .returned v' ∧ Old w w' ∧ OwS (mkL (backF N a) ps Rf xss) w' w.heap.size w'.heap.size v' := by
  obtain ⟨t1, t2, t3, t4, t5, t6⟩ := two_parts (two_of.2 ⟨h, h, (rfl : a = a)⟩)
  obtain ⟨p1, p2⟩ := gr_poly h
  have cR : ∀ k, k < ps.length → ∀ W, Calls Tryz.prog 185 #[.int .i64 (ps.getD k 0), .int .i64 N] W fun e w' => e = .returned (.tuple #[.agg #[.int .i64 (ps.getD k 0), .int .i64 N, .int .i64 (Rf k)], .bool true]) ∧ Old W w' := fun k hk => (hR k (p2 k hk).1).2.1
  cases a
  · refine spec_l5Back_c N ps xss _ Rf v u1 w hv h1 t2 t3 (mkL_len _ _ _ _) cR (fun k hk => ?_)
    have q := (t6 k hk).1
    rw [mkL_get _ _ _ _ _ hk]
    refine ⟨?_, by omega, by omega⟩
    unfold backF
    simp
  · refine spec_l5Back_t N ps xss _ Rf v u1 w hv h1 t2 t3 (mkL_len _ _ _ _) cR (fun k hk W u hu => ?_)
    obtain ⟨P, M, R, ys, e1, e2, e3, e4, hlt, hP2, hS, la, ha, r1, r2⟩ := row_open hR h k hk
    rw [mkL_get _ _ _ _ _ hk]
    rw [e4] at hu
    rw [e1, e3, e4, e2, show backF M true P R (toZ ys) = toZ (invL P M R ys) from bkZ_toZ P M R ys]
    exact spec_l3Inverse P M R ys u W hu hP2 hS hlt la ha (invM_ltI _ _ (by omega)) (invM_ltI _ _ (by omega))
theorem impl_BackRows (N : Int) (ps : List Int) (a : Bool) (xss : List (List Int)) (Rf : Nat → Int) (hR : ∀ k, RingOk (ps.getD k 0) N → ((0 ≤ Rf k ∧ Rf k < ps.getD k 0) ∧ (∀ W, PrsW W → TabW W → Calls Tryz.prog 163 #[.int .i64 (ps.getD k 0), .int .i64 N] W fun e w' => e = .returned (.tuple #[.agg #[.int .i64 (ps.getD k 0), .int .i64 N, .int .i64 (Rf k)], .bool true]) ∧ Old W w')) ∧ (∀ W, Calls Tryz.prog 185 #[.int .i64 (ps.getD k 0), .int .i64 N] W fun e w' => e = .returned (.tuple #[.agg #[.int .i64 (ps.getD k 0), .int .i64 N, .int .i64 (Rf k)], .bool true]) ∧ Old W w') ∧ ∃ P M R : Nat, ps.getD k 0 = P ∧ N = M ∧ Rf k = R ∧ R < P ∧ RingOk P M ∧ (F1.Pr P → Rt P (2 * M) R)) (v u1 : Value) (w : World) (lo1 hi1 : Nat) (hP : PrsW w) (hT : TabW w) (hv : Row w v ps) (hf : Fit v) (h1 : OwS xss w lo1 hi1 u1) (hlp : ps.length ≤ 1048576) (hl1 : xss.length ≤ 1048576) (hr1 : ∀ r ∈ xss, r.length ≤ 1048576) :
    Calls Tryz.prog 87 #[.agg #[.int .i64 N, v], .agg #[.bool a, u1]] w fun e w' => (grB N ps xss = true → Rs w false (mkL (backF N a) ps Rf xss) true e w') ∧ (grB N ps xss = false → Rs w false [] false e w') := by
  obtain ⟨us1, cs1, at1⟩ := h1.ats ps
  obtain ⟨a0, cap0, ev⟩ := hv.slice
  obtain ⟨a1, cap1, e1⟩ := h1.slice
  subst ev e1
  have c1 := fun W W' (q : Old w W) (p1 : PrsW W') (p2 : TabW W') (q' : Old W W') => impl_ringRows N a ps xss Rf us1 cs1 (.slice a0 ps.length cap0) a1 cap1 W' p1 p2 (hv.old (Old.trans q q')) hf hlp hl1 hr1 (fun h => (at1 h).old (Old.trans q q')) (fun k hk => (hR k hk).1)
  cases hyes : grB N ps xss
  · refine (impl_BackRows_of N ps xss a a0 a1 cap0 cap1 w false [] false (fun W q => eachRow_back_no N ps a false xss Rf us1 _ a1 cap1 W (hP.old q) (hT.old q) (hv.old q) (fun W' p1 p2 q' => c1 W W' q p1 p2 q') hyes)).mono (fun e w' h => ⟨(fun h' => by cases h'), fun _ => h⟩)
  · obtain ⟨t1, t2, t3, t4, t5, t6⟩ := two_parts (two_of.2 ⟨hyes, hyes, (rfl : a = a)⟩)
    obtain ⟨Nn, hNn⟩ : ∃ Nn : Nat, N = Nn := ⟨N.toNat, by omega⟩
    subst hNn
    refine (impl_BackRows_of Nn ps xss a a0 a1 cap0 cap1 w false (mkL (backF Nn a) ps Rf xss) true (fun W q => eachRow_back_yes Nn ps a false xss Rf us1 _ a1 cap1 W (hP.old q) (hT.old q) (hv.old q) (fun W' p1 p2 q' => c1 W W' q p1 p2 q') hyes (mkL (backF Nn a) ps Rf xss) (mkL_len _ _ _ _) t2.2 (fun k hk => ?_))).mono (fun e w' h => ⟨fun _ => h, (fun h' => by cases h')⟩)
    obtain ⟨s1, s2, s3, s4⟩ := t6 k hk
    obtain ⟨b1, _, _, _, rr1⟩ := at1 (by omega)
    have row1 := (rr1 k (by omega)).2.2
    have l1 : (xss.getD k []).length = Nn := by omega
    rw [l1] at row1
    have row2 := row1.recap (c' := Nn) (fun h => by rw [h] at l1; simp at l1; omega)
    have hlen := backF_len Nn a ps xss Rf hR hyes k hk
    rw [mkL_get _ _ _ _ _ hk]
    refine ⟨by omega, fun W' q' => ?_⟩
    obtain ⟨P, M, R, ys, e1, e2, e3, e4, hlt, hP2, hS, la, ha, r1, r2⟩ := row_open hR hyes k hk
    obtain rfl : Nn = M := by omega
    rw [e1, e3, e4] at hlen ⊢
    rw [e4] at row2 l1
    have hN2 := sz4_bd hS
    cases a
    · refine impl_madeBack_c P R Nn _ (us1 k) W' (fun W'' q'' => ?_)
      exact impl_copied P R false Nn (toZ ys) (us1 k) W'' (row2.old (Old.trans q (Old.trans q' q''))) hN2 l1
    · refine impl_madeBack_t P R Nn _ (us1 k) W' (fun W'' q'' => ?_) (by omega) (by omega)
      rw [show backF Nn true P R (toZ ys) = toZ (invL P Nn R ys) from bkZ_toZ P Nn R ys, ← inv_same P Nn R ys hS la hP2.1 ha r1 r2]
      exact impl_inverse0 P Nn R ys _ W'' (hT.old (Old.trans q (Old.trans q' q''))) (row2.old (Old.trans q (Old.trans q' q''))) hP2 hS hlt la ha
end Go.Proofs.YtfgooclnohnkmaaGreatDoor
/- Proved: the contract of the program's mulSizes. -/
namespace Go.Proofs.YtfgooclnohnkmaaGreatDoor
open Go.ChangeShapes Go.WideShapes Go.ChangeAt Go.RowKit
open M2
set_option linter.unusedVariables false
set_option linter.unusedSimpArgs false

/-- multiplying, i limbs far -/
structure MuI (a b i : Nat) (cur : List Nat) : Prop where
  lim : Lim cur
  len : cur.length = 80
  eq : val cur = val ((dig a).take i) * b
  up : ∀ j, i + cnt b ≤ j → cur.getD j 0 = 0
/-- and k limbs of the other one -/
structure MkI (a b i k : Nat) (cur : List Nat) (c : Nat) : Prop where
  mul : MulI 80 (i + k) (val ((dig a).take i) * b + LB ^ i * (dig a).getD i 0 * val ((dig b).take k)) cur c
  up : ∀ j, i + cnt b ≤ j → cur.getD j 0 = 0
theorem MuI.start (a b : Nat) : MuI a b 0 (ext []) :=
  ⟨ext_lim Lim.nil, ext_len (by simp), by rw [ext_val]; simp [val], fun j _ => by rw [ext_getD]; simp⟩
theorem MkI.start {a b i : Nat} {cur : List Nat} (h : MuI a b i cur) : MkI a b i 0 cur 0 :=
  ⟨⟨h.lim, h.len, by rw [h.eq]; simp [val], LB_pos⟩, h.up⟩
theorem MkI.step {a b i k : Nat} {cur : List Nat} {c : Nat} (h : MkI a b i k cur c) (hk : k < cnt b) (hi : i + cnt b ≤ 80) :
    MkI a b i (k + 1) (cur.set (i + k) ((c + (cur.getD (i + k) 0 + (dig a).getD i 0 * (dig b).getD k 0)) % LB)) ((c + (cur.getD (i + k) 0 + (dig a).getD i 0 * (dig b).getD k 0)) / LB) := by
  have l1 := (dig_lim a).getD i
  have l2 := (dig_lim b).getD k
  have hz : (dig a).getD i 0 * (dig b).getD k 0 ≤ (LB - 1) * (LB - 1) := Nat.mul_le_mul (by omega) (by omega)
  have := h.mul.step _ hz (by omega)
  have e := mul_row_step (dig a) (dig b) ((dig a).getD i 0) i k
  rw [val_dig] at e
  rw [e] at this
  refine ⟨this, fun j hj => ?_⟩
  refine Eq.trans ?_ (h.up j hj)
  simp [List.getD, show ¬ i + k = j by omega]
theorem MkI.done {a b i : Nat} {cur : List Nat} {c : Nat} (h : MkI a b i (cnt b) cur c) (hi : i + cnt b < 80) : MuI a b (i + 1) (cur.set (i + cnt b) c) := by
  have hs := val_set cur (i + cnt b) c (by rw [h.mul.len]; exact hi)
  rw [h.up _ (Nat.le_refl _), Nat.mul_zero, Nat.add_zero] at hs
  refine ⟨h.mul.lim.set _ _ h.mul.c1, by rw [List.length_set, h.mul.len], ?_, ?_⟩
  · rw [hs, h.mul.eq, take_cnt b _ (Nat.le_refl _), val_dig, val_take_succ, Nat.add_mul]
  · intro j hj
    refine Eq.trans ?_ (h.up j (by omega))
    simp [List.getD, show ¬ i + cnt b = j by omega]
theorem MuI.done {a b : Nat} {cur : List Nat} (h : MuI a b (cnt a) cur) : cur = pad (a * b) := by
  have e := h.eq
  rw [take_cnt a _ (Nat.le_refl _), val_dig] at e
  rw [← e]
  exact pad_of h.lim h.len
end Go.Proofs.YtfgooclnohnkmaaGreatDoor
/- Proved: the contract of the program's lessSize. -/
namespace Go.Proofs.YtfgooclnohnkmaaGreatDoor
open Go.ChangeShapes Go.WideShapes Go.ChangeAt Go.RowKit
open M2
set_option linter.unusedVariables false
set_option linter.unusedSimpArgs false

theorem sub_done {a b : Nat} {out : List Nat} {c : Nat} (h : SubI (dig a) (dig b) (cnt a) out c) (hle : b ≤ a) (hk : cnt a ≤ 80) : ext out = pad (a - b) ∧ cnt (a - b) ≤ cnt a := by
  have hd := h.done (show (dig a).length = cnt a from rfl) (cnt_mono hle) (by rw [val_dig, val_dig]; exact hle)
  have hv : val out = a - b := by
    have := val_trim out
    rw [hd, val_dig, val_dig, val_dig] at this
    exact this.symm
  refine ⟨?_, cnt_mono (Nat.sub_le _ _)⟩
  rw [pad_of (ext_lim h.lim) (ext_len (by rw [h.len]; exact hk)), ext_val, hv]
set_option maxHeartbeats 2000000 in
theorem less_sz (a b : Nat) (w : World) (hle : b ≤ a) (ha : cnt a ≤ 80) :
    Calls Tryz.prog 134 #[.agg (szV a), .agg (szV b)] w fun e w' => e = .returned (.agg (szV (a - b))) ∧ Old w w' := by
  have HLA := pad_len' ha (by omega)
  have HLB := pad_len' (Nat.le_trans (cnt_mono hle) ha) (by omega)
  have a80 := szA_cnt HLA (cnt a)
  have HPA : Hid ((pad a).length = 80) := HLA
  have HPB : Hid ((pad b).length = 80) := HLB
  clear HLA HLB
  unfold szV
  go_enter Tryz.func134, Tryz.ntmps134
  go_wp2_with fail
  clear a80
  go_loopw [6, 10] (fun cy i W => ∃ (k : Nat) (out : List Nat) (c : Nat), k ≤ cnt a ∧ i = .int .i64 (k : Int) ∧ cy = .int .i64 (-(c : Int)) ∧ c ≤ 1 ∧ Hid (SubI (dig a) (dig b) k out c) ∧ Hid (Sz W w.heap.size (pad a) (cnt a)) ∧ Hid (Sz W (w.heap.size + 1) (pad b) (cnt b)) ∧ Hid (Sz W (w.heap.size + 1 + 1) (ext []) 0) ∧ Hid (Sz W (w.heap.size + 1 + 1 + 1) (ext out) 0) ∧ Hid (Old w W)) (fun _ i _ => cnt a - (intOf i).toNat)
  case atStart => exact ⟨0, [], 0, by omega, rfl, rfl, by omega, SubI.start _ _, (((Sz.new w _ _ HPA.out).alloc _).alloc _).alloc _, (((Sz.new' _ _ _ _ HPB.out (by simp)).alloc _).alloc _), ((Sz.zero _ _ (by simp)).alloc _), Sz.zero _ _ (by simp), ((((Old.refl w).alloc _).alloc _).alloc _).alloc _⟩
  case round =>
      obtain ⟨k, out, c, hk, rfl, rfl, hc, HI, HSA, HSB, HR, HO, HG⟩ := hrel
      by_cases hlt : k < cnt a
      · have i1 : (k : Int) < 80 := by omega
        have c1 := HSA.out.at (j := k) (by omega)
        have c2 := HSB.out.at (j := k) (by omega)
        have f1 := HO.out.fro k
        have c3 := HO.out.at (j := k) (by omega)
        rw [pad_getD] at c1 c2
        have l1 := (dig_lim a).getD k
        have l2 := (dig_lim b).getD k
        have HL : Hid (out.length = k) := HI.out.len
        have HN1 : Hid (c + (dig b).getD k 0 ≤ (dig a).getD k 0 → SubI (dig a) (dig b) (k + 1) (out ++ [(dig a).getD k 0 - c - (dig b).getD k 0]) 0) := fun h => HI.out.stepNo (dig_lim a) h
        have HN2 : Hid ((dig a).getD k 0 < c + (dig b).getD k 0 → SubI (dig a) (dig b) (k + 1) (out ++ [(dig a).getD k 0 + LB - c - (dig b).getD k 0]) 1) := fun h => HI.out.stepYes (dig_lim a) (dig_lim b) h
        generalize (dig a).getD k 0 = x at *
        generalize (dig b).getD k 0 = y at *
        generalize (ext out).getD k 0 = z at *
        have hx : x < 268435456 := l1
        have hy : y < 268435456 := l2
        clear l1 l2
        by_cases hle2 : c + y ≤ x
        · skip
          go_wp2_with fail
          go_quiet (fail)
          have e1 : bits .and .i64 (-(c : Int) + ((x : Int) - (y : Int))) 268435455 = ((x - c - y : Nat) : Int) := by rw [and_low]; omega
          have e2 : (-(c : Int) + ((x : Int) - (y : Int))) / 268435456 = 0 := by omega
          have HN' : Hid (SubI (dig a) (dig b) (k + 1) (out ++ [x - c - y]) 0) := HN1.out hle2
          go_wp2_with fail
          refine ⟨⟨k + 1, out ++ [x - c - y], 0, by omega, by go_num, by first | rfl | simp | (rw [e2]; rfl), by omega, HN', (HSA.out.drew _).other _ (by first | (simp; done) | (simp; omega)) _, (HSB.out.drew _).other _ (by first | (simp; done) | (simp; omega)) _, (HR.out.drew _).other _ (by simp) _, ?_, (HG.out.drewN _).own (by simp; omega) _⟩, by simp [intOf]; omega⟩
          have := (HO.out.drew nq).set (j := k) (by omega) (x - c - y)
          rw [← HL.out, ext_set (by rw [HL.out]; omega)] at this
          rw [← HL.out]
          exact this
        · skip
          go_wp2_with fail
          go_quiet (fail)
          have e1 : bits .and .i64 (-(c : Int) + ((x : Int) - (y : Int))) 268435455 = ((x + LB - c - y : Nat) : Int) := by rw [and_low]; unfold LB; omega
          have e2 : (-(c : Int) + ((x : Int) - (y : Int))) / 268435456 = -1 := by omega
          have HN' : Hid (SubI (dig a) (dig b) (k + 1) (out ++ [x + LB - c - y]) 1) := HN2.out (by omega)
          go_wp2_with fail
          refine ⟨⟨k + 1, out ++ [x + LB - c - y], 1, by omega, by go_num, by first | rfl | simp | (rw [e2]; rfl), by omega, HN', (HSA.out.drew _).other _ (by first | (simp; done) | (simp; omega)) _, (HSB.out.drew _).other _ (by first | (simp; done) | (simp; omega)) _, (HR.out.drew _).other _ (by simp) _, ?_, (HG.out.drewN _).own (by simp; omega) _⟩, by simp [intOf]; omega⟩
          have := (HO.out.drew nq).set (j := k) (by omega) (x + LB - c - y)
          rw [← HL.out, ext_set (by rw [HL.out]; omega)] at this
          rw [← HL.out]
          exact this
      · obtain rfl : k = cnt a := by omega
        have c1 := HSA.out.cnt
        obtain ⟨HE1, HE2⟩ := sub_done HI.out hle ha
        have HE : Hid (cnt (a - b) ≤ cnt a) := HE2
        have HPS : Hid ((pad (a - b)).length = 80) := pad_len' HE2 (by omega)
        have HD : Hid (Sz wr (w.heap.size + 1 + 1 + 1) (pad (a - b)) 0) := by
          have := HO.out
          rw [HE1] at this
          exact this
        clear HE1 HE2 HI HO HSA HSB
        go_wp2_with (first | ((with_reducible refine load_sz HD.out ?_ ?_); exact rfl; simp only [Act.put, List.setIfInBounds_toArray, List.set_cons_succ, List.set_cons_zero]) | (go_at_call 173; refine (trimmed_pad (a - b) 0 (cnt a) _ HE.out (by omega)).mono ?_; rintro e w5 ⟨rfl, g5⟩; have HR5 : Hid (Sz w5 (w.heap.size + 1 + 1) (ext []) 0) := HR.out.old g5; have HG5 : Hid (Old w w5) := Old.trans HG.out g5) | ((with_reducible refine store_sz HR5.out (pad (a - b)) (cnt (a - b)) HPS.out ?_ ?_ ?_); exact rfl; exact rfl; simp only [Act.put]) | ((with_reducible refine bodyPost_ret (ret_sz Tryz.results134 _ _ ?_ (HR5.out.row (pad (a - b)) (cnt (a - b)) HPS.out)) ?_ ?_); exact rfl; exact rfl; exact ⟨rfl, HG5.out.row (by omega) _⟩))
end Go.Proofs.YtfgooclnohnkmaaGreatDoor
/- Proved: the contracts of cmp.Compare over int and of the program's compareSizes. -/
namespace Go.Proofs.YtfgooclnohnkmaaGreatDoor
open Go.ChangeShapes Go.WideShapes Go.ChangeAt Go.RowKit
open M2
set_option linter.unusedVariables false
set_option linter.unusedSimpArgs false

theorem nan_any (x : Int) (w : World) : Calls Tryz.prog 199 #[.int .i64 x] w fun e w' => e = .returned (.bool false) ∧ w' = w := by
  have d : (x != x) = false := by simp
  go_enter Tryz.func199, Tryz.ntmps199
  go_wp2_with fail
  go_ret
  exact ⟨by first | rfl | simp, rfl⟩
theorem cmpInt_any (x y : Nat) (w : World) : Calls Tryz.prog 174 #[.int .i64 (x : Int), .int .i64 (y : Int)] w fun e w' => e = .returned (.int .i64 (cmpN x y)) ∧ w' = w := by
  have HC : Hid (cmpN x y = if x < y then -1 else if y < x then 1 else 0) := rfl
  generalize cmpN x y = z at *
  rcases Nat.lt_trichotomy x y with h | h | h
  · have d1 : decide (x < y) = true := decide_eq_true h
    have HE : Hid (z = -1) := by rw [HC.out, if_pos h]; rfl
    clear h HC
    go_enter Tryz.func174, Tryz.ntmps174
    go_wp2_with (go_at_call 199; refine (nan_any _ _).mono ?_; rintro e w' ⟨rfl, rfl⟩)
    go_ret
    exact ⟨congrArg (fun z => Ending.returned (.int .i64 z)) HE.out.symm, rfl⟩
  · subst h
    have HE : Hid (z = 0) := by rw [HC.out, if_neg (by omega), if_neg (by omega)]; rfl
    clear HC
    go_enter Tryz.func174, Tryz.ntmps174
    go_wp2_with (go_at_call 199; refine (nan_any _ _).mono ?_; rintro e w' ⟨rfl, rfl⟩)
    go_ret
    exact ⟨congrArg (fun z => Ending.returned (.int .i64 z)) HE.out.symm, rfl⟩
  · have d1 : decide (x < y) = false := decide_eq_false (by omega)
    have d2 : decide (y < x) = true := decide_eq_true h
    have HE : Hid (z = 1) := by rw [HC.out, if_neg (by omega), if_pos h]; rfl
    clear h HC
    go_enter Tryz.func174, Tryz.ntmps174
    go_wp2_with (go_at_call 199; refine (nan_any _ _).mono ?_; rintro e w' ⟨rfl, rfl⟩)
    go_ret
    exact ⟨congrArg (fun z => Ending.returned (.int .i64 z)) HE.out.symm, rfl⟩
theorem cmp_cnt {a b : Nat} (h : cnt a ≠ cnt b) : cmpN (cnt a) (cnt b) = cmpN a b := by
  rcases Nat.lt_or_gt_of_ne h with h1 | h1
  · have := cmp_short (dig_nrm a) (dig_nrm b) h1
    rw [val_dig, val_dig] at this
    unfold cmpN
    rw [if_pos h1, if_pos this]
  · have := cmp_short (dig_nrm b) (dig_nrm a) h1
    rw [val_dig, val_dig] at this
    unfold cmpN
    rw [if_neg (by omega), if_pos h1, if_neg (by omega), if_pos this]
theorem cmp_top {a b m : Nat} (hl : (dig a).length = (dig b).length) (hm : m < cnt a) (hd : (dig a).drop (m + 1) = (dig b).drop (m + 1)) (hne : (dig a).getD m 0 ≠ (dig b).getD m 0) : cmpN ((dig a).getD m 0) ((dig b).getD m 0) = cmpN a b := by
  have h1 := cmp_at (i := m) (dig_lim a) hm hl hd
  have h2 := cmp_at (i := m) (dig_lim b) (by unfold cnt at hm; omega) hl.symm hd.symm
  rw [val_dig, val_dig] at h1 h2
  rcases Nat.lt_or_gt_of_ne hne with h | h
  · have := h1 h
    unfold cmpN
    rw [if_pos h, if_pos this]
  · have := h2 h
    unfold cmpN
    rw [if_neg (by omega), if_pos h, if_neg (by omega), if_pos this]
set_option maxHeartbeats 2000000 in
theorem cmp_sz (a b : Nat) (w : World) (ha : cnt a ≤ 80) (hb : cnt b ≤ 80) :
    Calls Tryz.prog 132 #[.agg (szV a), .agg (szV b)] w fun e w' => e = .returned (.int .i64 (cmpN a b)) ∧ Old w w' := by
  have HLA := pad_len' ha (by omega)
  have HLB := pad_len' hb (by omega)
  have a80 := szA_cnt HLA (cnt a)
  have b80 := szA_cnt HLB (cnt b)
  have HPA : Hid ((pad a).length = 80) := HLA
  have HPB : Hid ((pad b).length = 80) := HLB
  clear HLA HLB
  unfold szV
  by_cases hlen : cnt a = cnt b
  · have d1 : ((cnt a : Int) != (cnt b : Int)) = false := by simp; omega
    have HL : Hid ((dig a).length = (dig b).length) := hlen
    clear hlen
    go_enter Tryz.func132, Tryz.ntmps132
    go_wp2_with fail
    clear a80 b80 d1
    go_loopw [5] (fun i W => ∃ k : Nat, k ≤ cnt a ∧ i = .int .i64 ((k : Int) - 1) ∧ Hid ((dig a).drop k = (dig b).drop k) ∧ Hid (Sz W w.heap.size (pad a) (cnt a)) ∧ Hid (Sz W (w.heap.size + 1) (pad b) (cnt b)) ∧ Hid (Old w W)) (fun i _ => (intOf i + 1).toNat)
    case atStart => exact ⟨cnt a, Nat.le_refl _, rfl, (by show (dig a).drop (dig a).length = (dig b).drop (dig a).length; rw [List.drop_length, HL.out, List.drop_length]), (Sz.new w _ _ HPA.out).alloc _, Sz.new' _ _ _ _ HPB.out (by simp), ((Old.refl w).alloc _).alloc _⟩
    case round =>
      obtain ⟨k, hk, rfl, HD, HSA, HSB, HG⟩ := hrel
      rcases Nat.eq_zero_or_pos k with hk0 | hk0
      · subst hk0
        have HE : Hid (cmpN a b = 0) := by
          have h1 : dig a = dig b := by simpa using HD.out
          have h2 : a = b := by rw [← val_dig a, h1, val_dig]
          rw [h2]
          show cmpN b b = 0
          unfold cmpN
          rw [if_neg (by omega), if_neg (by omega)]
        go_wp2_with fail
        go_ret
        exact ⟨congrArg (fun z => Ending.returned (.int .i64 z)) HE.out.symm, HG.out⟩
      · obtain ⟨m, rfl⟩ : ∃ m, k = m + 1 := ⟨k - 1, by omega⟩
        have c1 := HSA.out.at (j := m) (by omega)
        have c2 := HSB.out.at (j := m) (by omega)
        rw [pad_getD] at c1 c2
        have i1 : (m : Int) < 80 := by omega
        have d0 : decide ((0 : Int) ≤ (m : Int)) = true := by simp
        have em : ((m + 1 : Nat) : Int) - 1 = (m : Int) := by omega
        rw [em]
        clear em
        have HT : Hid ((dig a).getD m 0 ≠ (dig b).getD m 0 → cmpN ((dig a).getD m 0) ((dig b).getD m 0) = cmpN a b) := fun h => cmp_top HL.out (by omega) HD.out h
        have HE : Hid ((dig a).getD m 0 = (dig b).getD m 0 → (dig a).drop m = (dig b).drop m) := fun h => drop_step (by unfold cnt at hk; omega) HL.out HD.out h
        clear HD
        generalize (dig a).getD m 0 = x at *
        generalize (dig b).getD m 0 = y at *
        by_cases hxy : x = y
        · have HE3 : Hid ((dig a).drop m = (dig b).drop m) := HE.out hxy
          have d1 : ((x : Int) != (y : Int)) = false := by simp; omega
          clear HE HT hxy
          go_wp2_with fail
          go_quiet (fail)
          go_wp2_with fail
          exact ⟨⟨m, by omega, rfl, HE3, HSA.out.drew _, HSB.out.drew _, HG.out.drewN _⟩, by first | (simp [intOf]; done) | (simp [intOf]; omega)⟩
        · have HT2 : Hid (cmpN x y = cmpN a b) := HT.out hxy
          have d1 : ((x : Int) != (y : Int)) = true := by simp; omega
          clear HE HT hxy
          go_wp2_with fail
          go_quiet (fail)
          have c1' : (wr.drewN nq).cell? ⟨w.heap.size, m, none⟩ = some (.int .i64 (x : Int)) := c1
          have c2' : (wr.drewN nq).cell? ⟨w.heap.size + 1, m, none⟩ = some (.int .i64 (y : Int)) := c2
          have HG2 : Hid (Old w (wr.drewN nq)) := HG.out.drewN nq
          clear c1 c2 HG HSA HSB
          generalize wr.drewN nq = w2 at c1' c2' HG2 ⊢
          go_wp2_with fail
          go_quiet ((go_at_call 174; exact Calls.quiet_of_same (cmpInt_any _ _ _)))
          go_wp2_with fail
          go_ret
          exact ⟨congrArg (fun z => Ending.returned (.int .i64 z)) HT2.out, HG2.out.drewN _⟩
  · have d1 : ((cnt a : Int) != (cnt b : Int)) = true := by simp; omega
    have HE := cmp_cnt hlen
    have HE' : Hid (cmpN (cnt a) (cnt b) = cmpN a b) := HE
    clear HE hlen
    go_enter Tryz.func132, Tryz.ntmps132
    go_wp2_with (go_at_call 174; refine (cmpInt_any _ _ _).mono ?_; rintro e w' ⟨rfl, rfl⟩)
    go_ret
    exact ⟨congrArg (fun z => Ending.returned (.int .i64 z)) HE'.out, ((Old.refl w).alloc _).alloc _⟩
end Go.Proofs.YtfgooclnohnkmaaGreatDoor
/- Proved: the drawn region of AddWholes in which the sizes of both numbers are made, in whatever order. -/
namespace Go.Proofs.YtfgooclnohnkmaaGreatDoor
open Go.ChangeShapes Go.WideShapes Go.ChangeAt Go.RowKit
open M2
set_option linter.unusedVariables false
set_option linter.unusedSimpArgs false

theorem Old.drw {a b : World} (h : Old a b) : Old a b.drew := Below.drew h
theorem Sz.drw {w : World} {g : Nat} {ls : List Nat} {c : Nat} (h : Sz w g ls c) : Sz w.drew g ls c := ⟨h.blk, h.len⟩
theorem Sz.zero0 (w : World) : Sz (w.alloc (.cells Tryz.zeroCells95 95)) w.heap.size (ext []) 0 := Sz.zero w _ rfl
theorem Sz.zero1 (w : World) (o : Obj) : Sz ((w.alloc o).alloc (.cells Tryz.zeroCells95 95)) (w.heap.size + 1) (ext []) 0 := Sz.zero _ _ (by simp)
theorem run_loadCells_sz {W : World} {g : Nat} {A : Array Value} (h : W.heap[g]? = some (.cells A 95 (0, 0))) (hs : A.size = 81) : (loadCellsFrom ⟨g, 0, none⟩ 0 81 #[]).run Tryz.prog W = .ok A W := by
  have := run_loadCells_list (P := Tryz.prog) W ⟨g, 0, none⟩ A.toList (fun j v hv => by
    have hadd : (⟨g, 0, none⟩ : Addr).add j = ⟨g, j, none⟩ := by unfold Addr.add; split <;> simp_all
    rw [hadd, cell_of_row W g j A _ _ h]
    simpa using hv)
  simpa [loadCells, hs] using this
theorem run_storeCells_sz {W : World} {g n : Nat} {ls : List Nat} {c : Nat} (hs : Sz W g ls c) (hl : (szV n).size = 81) : (storeCells ⟨g, 0, none⟩ (szV n).toList 0).run Tryz.prog W = .ok () (W.setRow g (szV n)) := by
  have := run_storeVar_row (P := Tryz.prog) W g 95 95 (szA ls c) (szV n) hs.blk (by rw [hl]; exact infoSz) (by rw [szA_size hs.len, hl]) (szA_one _ _)
  cases hq : Tryz.prog.info? 95 with
  | none => have h2 := infoSz; rw [hq] at h2; cases h2
  | some i =>
    have h2 := infoSz
    rw [hq] at h2
    have h3 : i.size = 81 := by simpa using h2
    simpa [storeVar, Go.sizeOf, typeInfo, hq, Value.cells, hl, h3] using this
theorem upon_st {o : Oper} {a : Act} {K : Act → World → Prop} {Q : Exit → Act → World → Prop} {f : Unit → World → Result Next} {W : World} {g n : Nat} {ls : List Nat} {c : Nat} (hs : Sz W g ls c) (hl : (szV n).size = 81)
    (h : Oper.upon Tryz.prog o a K Q (f () (W.setRow g (szV n)))) : Oper.upon Tryz.prog o a K Q ((Sem.run Tryz.prog (storeCells ⟨g, 0, none⟩ (szV n).toList 0) W).andThen f) := by
  rw [run_storeCells_sz hs hl]
  exact h
end Go.Proofs.YtfgooclnohnkmaaGreatDoor
/- Proved: the last drawn region of divideLong: quotient and what is left, trimmed and handed out. -/
namespace Go.Proofs.YtfgooclnohnkmaaGreatDoor
open Go.ChangeShapes Go.WideShapes Go.ChangeAt Go.RowKit
open M2
set_option linter.unusedVariables false
set_option linter.unusedSimpArgs false
def regionAtLong (n : Nat) : Code → Option Code
  | .region i ops b => if i = n then some (.region i ops b) else none
  | .seq a b => match regionAtLong n a with
    | some c => some c
    | none => regionAtLong n b
  | .block _ c => regionAtLong n c
  | .scope c => regionAtLong n c
  | .cond _ a b => match regionAtLong n a with
    | some c => some c
    | none => regionAtLong n b
  | _ => none
set_option maxRecDepth 1000000 in
set_option maxHeartbeats 16000000 in
theorem reg_last (A v p1 cc : Nat) (w w6 : World) (hcv : cnt v ≤ 79) (hp1b : p1 ≤ 78) (HCQ : Hid (cnt (A / v) ≤ p1)) (HVP : Hid (0 < v))
    (HL6 : Hid (Sz w6 (w.heap.size) (pad (A % v)) cc)) (HV6 : Hid (Sz w6 (w.heap.size + 1) (pad v) (cnt v))) (HA6 : Hid (Sz w6 (w.heap.size + 1 + 1) (ext []) 0)) (HB6 : Hid (Sz w6 (w.heap.size + 1 + 1 + 1) (ext []) 0)) (HQ6 : Hid (Sz w6 (w.heap.size + 1 + 1 + 1 + 1) (pad (A / v)) 0)) (HO6 : Hid (Old w w6))
    (R : Ending → World → Prop) (J K : Act → World → Prop) (s0 s1 s2 s5 s10 s11 s12 s13 s14 s15 s16 s17 s18 s19 s20 s21 s22 s23 s24 s25 s26 s27 s28 s29 s30 s31 s32 s33 s34 s35 s36 s37 s38 s39 s40 s41 : Value)
    (HK : Hid (∀ (W : World) (u35 u36 u37 u38 u39 u40 u41 : Value), Sz W (w.heap.size + 1 + 1) (pad (A / v)) (cnt (A / v)) → Sz W (w.heap.size + 1 + 1 + 1) (pad (A % v)) (cnt (A % v)) → Old w W → K ⟨#[s0, s1, s2, .pointer (some ⟨w.heap.size, 0, none⟩), .pointer (some ⟨w.heap.size + 1, 0, none⟩), s5, .pointer (some ⟨w.heap.size + 1 + 1, 0, none⟩), .pointer (some ⟨w.heap.size + 1 + 1 + 1, 0, none⟩), .pointer (some ⟨w.heap.size + 1 + 1 + 1 + 1, 0, none⟩), .int .i64 (p1 : Int), s10, s11, s12, s13, s14, s15, s16, s17, s18, s19, s20, s21, s22, s23, s24, s25, s26, s27, s28, s29, s30, s31, s32, s33, s34, u35, u36, u37, u38, u39, u40, u41], []⟩ W)) :
    Code.wp Tryz.prog ((Tryz.f144.body.bind (regionAtLong 10)).getD .skip) (Exit.then K (Exit.jump 0 J (bodyPost Tryz.prog Tryz.f144 R))) ⟨#[s0, s1, s2, .pointer (some ⟨w.heap.size, 0, none⟩), .pointer (some ⟨w.heap.size + 1, 0, none⟩), s5, .pointer (some ⟨w.heap.size + 1 + 1, 0, none⟩), .pointer (some ⟨w.heap.size + 1 + 1 + 1, 0, none⟩), .pointer (some ⟨w.heap.size + 1 + 1 + 1 + 1, 0, none⟩), .int .i64 (p1 : Int), s10, s11, s12, s13, s14, s15, s16, s17, s18, s19, s20, s21, s22, s23, s24, s25, s26, s27, s28, s29, s30, s31, s32, s33, s34, s35, s36, s37, s38, s39, s40, s41], []⟩ w6 := by
  conv => arg 2; whnf
  have HCL : Hid (cnt (A % v) ≤ cnt v) := cnt_mono (Nat.le_of_lt (Nat.mod_lt _ HVP.out))
  have HZQ : Hid ((szV (A / v)).size = 81) := szA_size (pad_len' HCQ.out (by omega)) _
  have HZL : Hid ((szV (A % v)).size = 81) := szA_size (pad_len' (Nat.le_trans HCL.out (show cnt v ≤ 80 by omega)) (by omega)) _
  obtain ⟨N, hN, HN9⟩ : ∃ N, (∀ W, Sem.run Tryz.prog (Go.sizeOf 95) W = .ok N W) ∧ Hid (N = 81) := ⟨81, Tryz.sizeOf95, rfl⟩
  have hzq := HZQ.out
  have hzl := HZL.out
  rw [← HN9.out] at hzq hzl
  have HPQ : Hid ((pad (A / v)).length = 80) := HQ6.out.len
  have HPL : Hid ((pad (A % v)).length = 80) := HL6.out.len
  have hR8 : ∀ W : World, W.heap[w.heap.size + 1 + 1 + 1 + 1]? = some (.cells (szA (pad (A / v)) 0) 95 (0, 0)) → Sem.run Tryz.prog (loadCellsFrom ⟨w.heap.size + 1 + 1 + 1 + 1, 0, none⟩ 0 N #[]) W = .ok (szA (pad (A / v)) 0) W := fun W h => by rw [HN9.out]; exact run_loadCells_sz h (szA_size HPQ.out _)
  have hR3 : ∀ W : World, W.heap[w.heap.size]? = some (.cells (szA (pad (A % v)) cc) 95 (0, 0)) → Sem.run Tryz.prog (loadCellsFrom ⟨w.heap.size, 0, none⟩ 0 N #[]) W = .ok (szA (pad (A % v)) cc) W := fun W h => by rw [HN9.out]; exact run_loadCells_sz h (szA_size HPL.out _)
  have HAS : Hid (∀ W' : World, Old w6 W' → (W'.heap[w.heap.size]? = some (.cells (szA (pad (A % v)) cc) 95 (0, 0)) ∧ W'.cell? ⟨w.heap.size + 1, 80, none⟩ = some (.int .i64 ((cnt v : Nat) : Int)) ∧ W'.heap[w.heap.size + 1 + 1 + 1 + 1]? = some (.cells (szA (pad (A / v)) 0) 95 (0, 0)))) := fun W' g => ⟨(HL6.out.old g).blk, (HV6.out.old g).cnt, (HQ6.out.old g).blk⟩
  have HKS : Hid (∀ (W' : World) (k : Nat) (cs : Array Value), k = w.heap.size + 1 + 1 ∨ k = w.heap.size + 1 + 1 + 1 → (W'.heap[w.heap.size]? = some (.cells (szA (pad (A % v)) cc) 95 (0, 0)) ∧ W'.cell? ⟨w.heap.size + 1, 80, none⟩ = some (.int .i64 ((cnt v : Nat) : Int)) ∧ W'.heap[w.heap.size + 1 + 1 + 1 + 1]? = some (.cells (szA (pad (A / v)) 0) 95 (0, 0))) → ((fun W' : World => W'.heap[w.heap.size]? = some (.cells (szA (pad (A % v)) cc) 95 (0, 0)) ∧ W'.cell? ⟨w.heap.size + 1, 80, none⟩ = some (.int .i64 ((cnt v : Nat) : Int)) ∧ W'.heap[w.heap.size + 1 + 1 + 1 + 1]? = some (.cells (szA (pad (A / v)) 0) 95 (0, 0))) (W'.setRow k cs))) := fun W' k cs hk h => by
    exact ⟨(setRow_other _ _ _ _ (by omega)).trans h.1, (cell_setRow_other _ _ _ _ (by show w.heap.size + 1 ≠ k; omega)).trans h.2.1, (setRow_other _ _ _ _ (by omega)).trans h.2.2⟩
  have tok1 : True := trivial
  have tok3 : True := trivial
  go_region_held3 (fun W' => W'.heap[w.heap.size]? = some (.cells (szA (pad (A % v)) cc) 95 (0, 0)) ∧ W'.cell? ⟨w.heap.size + 1, 80, none⟩ = some (.int .i64 ((cnt v : Nat) : Int)) ∧ W'.heap[w.heap.size + 1 + 1 + 1 + 1]? = some (.cells (szA (pad (A / v)) 0) 95 (0, 0))) (first | exact HKS.out _ _ _ (Or.inr rfl) (HKS.out _ _ _ (Or.inl rfl) (HAS.out _ G8.out)) | exact HKS.out _ _ _ (Or.inl rfl) (HAS.out _ G8.out) | exact HAS.out _ G8.out | exact HAS.out _ G7.out | exact HAS.out _ (Below.drew (Old.refl w6)) | exact HAS.out _ (Old.refl w6) | fail) (first
    | (go_at_call 173; have _t := tok1; refine (trimmed_pad (A / v) 0 p1 _ HCQ.out (by omega)).mono ?_; rintro e w7 ⟨rfl, g7⟩; have G7 : Hid (Old w6 w7) := Old.trans ((Old.refl _).drewN 1) g7; clear g7 tok1)
    | (go_at_call 173; refine (trimmed_pad (A % v) cc (cnt v) _ HCL.out (by omega)).mono ?_; rintro e w8 ⟨rfl, g8⟩; have G8 : Hid (Old w6 w8) := Old.trans G7.out g8; have HA8 : Hid (Sz w8 (w.heap.size + 1 + 1) (ext []) 0) := HA6.out.old G8.out; have HB8 : Hid (Sz w8 (w.heap.size + 1 + 1 + 1) (ext []) 0) := HB6.out.old G8.out; clear g8)
    | (have _t := tok3; refine upon_st HA8.out HZQ.out ?_; clear tok3; go_simp)
    | (refine upon_st (HB8.out.otherRow (by omega) _) HZL.out ?_; go_simp)
    | fail)
  all_goals
    go_wp2_with fail
    exact HK.out _ _ _ _ _ _ _ _ ((HA8.out.row (pad (A / v)) (cnt (A / v)) HPQ.out).otherRow (by omega) _) ((HB8.out.otherRow (by omega) _).row (pad (A % v)) (cnt (A % v)) HPL.out) (((Old.trans HO6.out G8.out).row (by omega) _).row (by omega) _)
end Go.Proofs.YtfgooclnohnkmaaGreatDoor
/- Proved: the drawn region of divideSizes in which nothing and the number itself are handed out. -/
namespace Go.Proofs.YtfgooclnohnkmaaGreatDoor
open Go.ChangeShapes Go.WideShapes Go.ChangeAt Go.RowKit
open M2
set_option linter.unusedVariables false
set_option linter.unusedSimpArgs false
theorem run_storeCells_sa {W : World} {g : Nat} {ls : List Nat} {c : Nat} (hs : Sz W g ls c) (ls' : List Nat) (c' : Nat) (hl : ls'.length = 80) : (storeCells ⟨g, 0, none⟩ (szA ls' c').toList 0).run Tryz.prog W = .ok () (W.setRow g (szA ls' c')) := by
  have := run_storeVar_row (P := Tryz.prog) W g 95 95 (szA ls c) (szA ls' c') hs.blk (by rw [szA_size hl]; exact infoSz) (by rw [szA_size hs.len, szA_size hl]) (szA_one _ _)
  cases hq : Tryz.prog.info? 95 with
  | none => have h2 := infoSz; rw [hq] at h2; cases h2
  | some i =>
    have h2 := infoSz
    rw [hq] at h2
    have h3 : i.size = 81 := by simpa using h2
    simpa [storeVar, Go.sizeOf, typeInfo, hq, Value.cells, szA_size hl, h3] using this
theorem upon_sa {o : Oper} {a : Act} {K : Act → World → Prop} {Q : Exit → Act → World → Prop} {f : Unit → World → Result Next} {W : World} {g : Nat} {ls : List Nat} {c : Nat} (hs : Sz W g ls c) (ls' : List Nat) (c' : Nat) (hl : ls'.length = 80)
    (h : Oper.upon Tryz.prog o a K Q (f () (W.setRow g (szA ls' c')))) : Oper.upon Tryz.prog o a K Q ((Sem.run Tryz.prog (storeCells ⟨g, 0, none⟩ (szA ls' c').toList 0) W).andThen f) := by
  rw [run_storeCells_sa hs ls' c' hl]
  exact h
theorem upon_zero {o : Oper} {a : Act} {K : Act → World → Prop} {Q : Exit → Act → World → Prop} {f : Unit → World → Result Next} {W : World} {g : Nat} {ls : List Nat} {c : Nat} (hs : Sz W g ls c)
    (h : Oper.upon Tryz.prog o a K Q (f () (W.setRow g (szA (ext []) 0)))) : Oper.upon Tryz.prog o a K Q ((Sem.run Tryz.prog (storeCells ⟨g, 0, none⟩ Tryz.zeroCells95.toList 0) W).andThen f) := by
  rw [szZero]
  exact upon_sa hs _ _ (ext_len (by simp)) h
end Go.Proofs.YtfgooclnohnkmaaGreatDoor
/- Proved: the drawn region of sumOfParts in which a part is added. -/
namespace Go.Proofs.YtfgooclnohnkmaaGreatDoor
open Go.ChangeShapes Go.WideShapes Go.ChangeAt Go.RowKit
open M2
set_option linter.unusedVariables false
set_option linter.unusedSimpArgs false
def regionAtSum (n : Nat) : Code → Option Code
  | .region i ops b => if i = n then some (.region i ops b) else none
  | .seq a b => match regionAtSum n a with
    | some c => some c
    | none => regionAtSum n b
  | .block _ c => regionAtSum n c
  | .scope c => regionAtSum n c
  | .loop c => regionAtSum n c
  | .cond _ a b => match regionAtSum n a with
    | some c => some c
    | none => regionAtSum n b
  | _ => none
set_option maxRecDepth 1000000 in
set_option maxHeartbeats 16000000 in
theorem reg_s6 (ls lP lT lS : List Nat) (ns nP nT nS p5 i y vn vc : Nat) (va : Option Addr) (zo : List Int) (w2 : World) (HS : Hid (Sz w2 p5 ls ns)) (HLS : Hid (lS.length = 80))
    (co : ∀ W, Old w2 W → Calls Tryz.prog 146 #[.slice va vn vc, .int .i64 (i : Int)] W fun e w' => ∃ v', e = .returned v' ∧ Old W w' ∧ Row w' v' zo)
    (cp : ∀ v' W, Row W v' zo → Calls Tryz.prog 79 #[v'] W fun e w' => e = .returned (.agg (szA lP nP)) ∧ Old W w')
    (cs : ∀ W, Calls Tryz.prog 133 #[.agg (szA lP nP), .int .i64 (y : Int), .int .i64 0] W fun e w' => e = .returned (.agg (szA lT nT)) ∧ Old W w')
    (cd : ∀ W, Calls Tryz.prog 145 #[.agg (szA ls ns), .agg (szA lT nT)] W fun e w' => e = .returned (.agg (szA lS nS)) ∧ Old W w')
    (Q : Exit → Act → World → Prop) (K : Act → World → Prop) (s0 s2 s3 s4 s8 s9 s10 s11 s12 s13 s14 s15 s16 s17 s18 s19 s20 s21 s22 s23 s24 s25 s26 : Value)
    (HK : Hid (∀ (W1 W : World) (u17 u18 u19 u20 u21 u22 u23 u24 : Value), Old w2 W1 → W = W1.setRow p5 (szA lS nS) → K ⟨#[s0, (.slice va vn vc), s2, s3, s4, .pointer (some ⟨p5, 0, none⟩), .int .i64 (i : Int), .int .i64 (y : Int), s8, s9, s10, s11, s12, s13, s14, s15, s16, u17, u18, u19, u20, u21, u22, u23, u24, s25, s26], []⟩ W)) :
    Code.wp Tryz.prog ((Tryz.f78.body.bind (regionAtSum 5)).getD .skip) (Exit.inBlock 1 (Exit.then K Q)) ⟨#[s0, (.slice va vn vc), s2, s3, s4, .pointer (some ⟨p5, 0, none⟩), .int .i64 (i : Int), .int .i64 (y : Int), s8, s9, s10, s11, s12, s13, s14, s15, s16, s17, s18, s19, s20, s21, s22, s23, s24, s25, s26], []⟩ w2 := by
  conv => arg 2; whnf
  obtain ⟨N, hN, HN9⟩ : ∃ N, (∀ W, Sem.run Tryz.prog (Go.sizeOf 95) W = .ok N W) ∧ Hid (N = 81) := ⟨81, Tryz.sizeOf95, rfl⟩
  have HPS : Hid (ls.length = 80) := HS.out.len
  have hzs : (szA lS nS).size = N := by rw [HN9.out]; exact szA_size HLS.out _
  have hR1 : ∀ W : World, W.heap[p5]? = some (.cells (szA ls ns) 95 (0, 0)) → Sem.run Tryz.prog (loadCellsFrom ⟨p5, 0, none⟩ 0 N #[]) W = .ok (szA ls ns) W := fun W h => by rw [HN9.out]; exact run_loadCells_sz h (szA_size HPS.out _)
  have HAS : Hid (∀ W' : World, Old w2 W' → (W'.heap[p5]? = some (.cells (szA ls ns) 95 (0, 0)))) := fun W' g => (HS.out.old g).blk
  have q2 : w2.heap[p5]? = some (.cells (szA ls ns) 95 (0, 0)) := HS.out.blk
  have q2d : w2.drew.heap[p5]? = some (.cells (szA ls ns) 95 (0, 0)) := HS.out.blk
  have tt : True := trivial
  refine wp_region_noPanic ?_
  go_region_with (first
    | (go_at_call 146; refine (co _ (Below.drew (Old.refl w2))).mono ?_; rintro e w3 ⟨v3, rfl, g3, r3⟩; have G1 : Hid (Old w2 w3) := Old.trans (Below.drew (Old.refl w2)) g3; have R3 : Hid (Row w3 v3 zo) := r3; obtain ⟨a3, c3, rfl⟩ := r3.slice; have q3 := HAS.out _ G1.out; clear g3 r3)
    | (go_at_call 79; refine (cp _ _ R3.out).mono ?_; rintro e w4 ⟨rfl, g4⟩; have G2 : Hid (Old w2 w4) := Old.trans G1.out g4; have q4 := HAS.out _ G2.out; clear g4)
    | (go_at_call 133; refine (cs _).mono ?_; rintro e w5 ⟨rfl, g5⟩; have G3 : Hid (Old w2 w5) := Old.trans G2.out g5; have q5 := HAS.out _ G3.out; clear g5)
    | (go_at_call 145; refine (cd _).mono ?_; rintro e w6 ⟨rfl, g6⟩; have G4 : Hid (Old w2 w6) := Old.trans G3.out g6; have HS6 : Hid (Sz w6 p5 ls ns) := HS.out.old G4.out; have q6 := HAS.out _ G4.out; clear g6)
    | (refine upon_sa HS6.out lS nS HLS.out ?_; go_simp)
    | fail)
  all_goals
    refine NoPanic.normal ?_
    go_wp2_with fail
    exact HK.out _ _ _ _ _ _ _ _ _ _ G4.out rfl
end Go.Proofs.YtfgooclnohnkmaaGreatDoor
/- Proved: the contract of the program's sharesOf. -/
namespace Go.Proofs.YtfgooclnohnkmaaGreatDoor
open Go.ChangeShapes Go.WideShapes Go.ChangeAt Go.RowKit
open M2
set_option linter.unusedVariables false
set_option linter.unusedSimpArgs false
theorem cellS (w : World) (g j : Nat) (x : Value) {b o : Nat} (h : b ≠ g) : (w.setCell ⟨g, j, none⟩ x).cell? ⟨b, o, none⟩ = w.cell? ⟨b, o, none⟩ := World.cell?_of_block (heap_setCell_other w ⟨g, j, none⟩ b x h)
set_option maxRecDepth 100000 in
set_option maxHeartbeats 4000000 in
theorem shares_any (rs ps : List Nat) (v u : Value) (w : World) (hv : Row w v (toZ rs)) (hu : Row w u (toZ ps)) (hf : Fit u) (hb : Bas ps) (hrl : rs.length = ps.length) (hr : ∀ i, i < ps.length → rs.getD i 0 < ps.getD i 0) :
    Calls Tryz.prog 141 #[v, u] w fun e w' => ∃ g, e = .returned (.slice (some ⟨g, 0, none⟩) ps.length ps.length) ∧ Old w w' ∧ Own w' w.heap.size (.slice (some ⟨g, 0, none⟩) ps.length ps.length) (toZ (yL rs ps)) := by
  obtain ⟨i0, hi, hz0, hz1, hz2⟩ := info_parts Tryz.infoInt
  have hl6 := hb.len6
  have hl1 := hb.len1
  have HU : Hid (Row w u (toZ ps)) := hu
  obtain ⟨b1, o1, cap1, rfl, hb1, hc1⟩ := hv.atZ (by omega)
  obtain ⟨b2, o2, cap2, rfl, hb2, hc2⟩ := hu.atZ (by omega)
  rw [hrl] at hc1 ⊢
  have HC1 : Hid (∀ j, j < ps.length → w.cell? ⟨b1, o1 + j, none⟩ = some (.int .i64 ((rs.getD j 0 : Nat) : Int))) := hc1
  have HC2 : Hid (∀ j, j < ps.length → w.cell? ⟨b2, o2 + j, none⟩ = some (.int .i64 ((ps.getD j 0 : Nat) : Int))) := hc2
  have HB : Hid (Bas ps) := hb
  have HR : Hid (∀ i, i < ps.length → rs.getD i 0 < ps.getD i 0) := hr
  have HF : Hid (Fit (.slice (some ⟨b2, o2, none⟩) ps.length cap2)) := hf
  have hlen : (toZ (yL rs ps)).length = ps.length := by rw [toZ_len, yL_len]
  have HE : Hid (∀ k, k < ps.length → (toZ (yL rs ps)).getD k 0 = ((yN rs ps k : Nat) : Int)) := fun k hk => by rw [toZ_get, yL_get _ _ _ hk]
  generalize toZ (yL rs ps) = zs at *
  clear hv hu hc1 hc2 hb hr hf hrl
  go_enter Tryz.func141, Tryz.ntmps141
  go_wp2_with (at_make; refine wpList_make_full _ rfl _ _ 23 rfl w.heap.size 3 i0 (.int .i64 0) 1 Tryz.underlying23 hi hz0 hz1 .i64 .i64 _ _ ps.length rfl rfl rfl rfl (by rw [hz2]; omega) (by unfold maxLen; omega) (Nat.le_refl _) ?_; intro w3 hown hgrow)
  have HO : Hid (OwnI w3 w.heap.size w.heap.size ps.length (List.replicate ps.length 0)) := by
    rw [made_ints] at hown
    exact hown
  have HG3 : Hid (Old w w3) := Old.by_ (Old.refl _) hgrow (fun b hb => by cases hb)
  clear hown hgrow
  go_loopw [13] (fun i W => ∃ k : Nat, k ≤ ps.length ∧ i = .int .i64 k ∧ Hid (OwnI W w.heap.size w.heap.size ps.length (fillN zs k)) ∧ Hid (Old w W)) (fun i _ => ps.length - (intOf i).toNat)
  case atStart => exact ⟨0, by omega, rfl, (by show OwnI _ _ _ _ _; rw [fillN_zero, hlen]; exact HO.out), HG3⟩
  case round =>
    obtain ⟨k, hk, rfl, HO1, HG⟩ := hrel
    clear HO HG3
    by_cases hlt : k < ps.length
    · have d1 : decide ((k : Int) < (ps.length : Int)) = true := by simp; omega
      have c1 : wr.cell? ⟨b1, o1 + k, none⟩ = some (.int .i64 ((rs.getD k 0 : Nat) : Int)) := (HG.out.cell (p := ⟨b1, o1 + k, none⟩) hb1).trans (HC1.out k hlt)
      have c2 : wr.cell? ⟨b2, o2 + k, none⟩ = some (.int .i64 ((ps.getD k 0 : Nat) : Int)) := (HG.out.cell (p := ⟨b2, o2 + k, none⟩) hb2).trans (HC2.out k hlt)
      have civ := fun W h3 => inverseAt_any ps (.slice (some ⟨b2, o2, none⟩) ps.length cap2) k W h3 HF.out hlt (by omega) HB.out.lo HB.out.hi
      have hyl := yN_lt (rs := rs) HB.out hlt
      have hivl : ivN ps k ≤ 268435456 := by
        have : ivN ps k < ps.getD k 0 := by
          have hm : ps.getD k 0 ∈ ps := by simp [List.getD, hlt]
          have h2 := HB.out.lo _ hm
          unfold ivN
          exact invM_lt _ _ (by omega)
        omega
      have hrk := HR.out k hlt
      have HX : Hid (zs.getD k 0 = ((yN rs ps k : Nat) : Int)) := HE.out k hlt
      have HYE : Hid (rs.getD k 0 * ivN ps k % ps.getD k 0 = yN rs ps k) := rfl
      generalize yN rs ps k = y at *
      generalize ivN ps k = iv at *
      generalize rs.getD k 0 = rk at *
      generalize ps.getD k 0 = p at *
      obtain ⟨y0, hy0⟩ : ∃ y0, rk * iv = y0 := ⟨_, rfl⟩
      have hb2' : y0 ≤ 72057594037927936 := by rw [← hy0]; exact Nat.le_trans (Nat.mul_le_mul (show rk ≤ 268435456 by omega) hivl) (by decide)
      have t2 : IntKind.i64.wrap ((rk : Int) * (iv : Int)) = (y0 : Int) := by rw [← Int.natCast_mul, hy0, IntKind.wrap_i64]; omega
      have hye := HYE.out
      rw [hy0] at hye
      have t3 : Int.tmod (y0 : Int) (p : Int) = (y : Int) := by rw [Int.tmod_eq_emod_of_nonneg (by omega), ← hye]; rfl
      have hp0 : ¬ p = 0 := by omega
      have i1 : (k : Int) < (ps.length : Int) := by omega
      have hbk1 : b1 < wr.heap.size := Nat.lt_of_lt_of_le hb1 HG.out.size
      have HAS : Hid (∀ W', Old wr W' → W'.cell? ⟨b1, o1 + k, none⟩ = some (.int .i64 (rk : Int))) := fun W' g => (g.cell (p := ⟨b1, o1 + k, none⟩) hbk1).trans c1
      have HAS2 : Hid (∀ W' z, Old wr W' → ((fun W' => W'.cell? ⟨b1, o1 + k, none⟩ = some (.int .i64 (rk : Int))) (W'.setCell ⟨w.heap.size, k, none⟩ z))) := fun W' z g => (cellS _ _ _ _ (by omega)).trans (HAS.out W' g)
      have HLK : Hid (zs.length = ps.length) := hlen
      clear HYE hy0 hye
      go_wp2_with fail
      go_region_held3 (fun W' => W'.cell? ⟨b1, o1 + k, none⟩ = some (.int .i64 (rk : Int))) (first | with_reducible exact HAS.out _ G5.out | with_reducible exact HAS.out _ (Below.drew (Old.refl wr)) | with_reducible exact HAS2.out _ _ G5.out | with_reducible exact HAS.out _ (Old.refl wr)) (first
        | (go_at_call 178; refine (civ _ (HU.out.old (Old.trans HG.out (Below.drew (Old.refl wr))))).mono ?_; rintro e w5 ⟨rfl, g5⟩; have G5 : Hid (Old wr w5) := Old.trans (Below.drew (Old.refl wr)) g5; clear g5; have c3 := (HO1.out.old G5.out).get (fillN_len zs k (by omega) |>.trans HLK.out) k hlt; have c4 := (HO1.out.old G5.out).free k; generalize (fillN zs k).getD k 0 = oldv at c3)
        | fail)
      all_goals
        have HP : Hid (OwnI (w5.setCell ⟨w.heap.size, k, none⟩ (.int .i64 (y : Int))) w.heap.size w.heap.size ps.length (fillN zs (k + 1))) := by
          have := (HO1.out.old G5.out).put k (y : Int)
          rw [← HX.out, fillN_set zs k (by omega)] at this
          rw [← HX.out]
          exact this
        have HN2 : Hid (Old w (w5.setCell ⟨w.heap.size, k, none⟩ (.int .i64 (y : Int)))) := (Old.trans HG.out G5.out).own (Nat.le_refl _) _
        go_wp2_with fail
        exact ⟨⟨k + 1, by omega, by go_num, HP, HN2⟩, by simp [intOf]; omega⟩
    · have d1 : decide ((k : Int) < (ps.length : Int)) = false := by simp; omega
      obtain rfl : k = ps.length := by omega
      have HFI : Hid (Own wr w.heap.size (.slice (some ⟨w.heap.size, 0, none⟩) ps.length ps.length) zs) := by
        have := HO1.out.own ((fillN_len zs ps.length (by omega)).trans hlen)
        rw [show fillN zs ps.length = zs by rw [← hlen]; exact fillN_all zs] at this
        exact this
      go_wp2_with fail
      go_ret
      exact ⟨_, rfl, HG.out, HFI.out⟩
end Go.Proofs.YtfgooclnohnkmaaGreatDoor
/- Proved: the contract of the program's sumOfParts. -/
namespace Go.Proofs.YtfgooclnohnkmaaGreatDoor
open Go.ChangeShapes Go.WideShapes Go.ChangeAt Go.RowKit
open M2
set_option linter.unusedVariables false
set_option linter.unusedSimpArgs false
theorem Own.at0 {w : World} {base g n : Nat} {zs : List Int} (h : Own w base (.slice (some ⟨g, 0, none⟩) n n) zs) (hn : zs.length = n) (h0 : 0 < n) : g < w.heap.size ∧ base ≤ g ∧ ∀ j, j < n → w.cell? ⟨g, j, none⟩ = some (.int .i64 (zs.getD j 0)) := by
  have hr := Own.row h
  rcases h.2 with ⟨e, h1⟩ | ⟨g', cap', cur, e, hb, hg, _⟩
  · omega
  · simp only [Value.slice.injEq, Option.some.injEq, Addr.mk.injEq] at e
    obtain ⟨⟨rfl, _⟩, _⟩ := e
    refine ⟨(Array.getElem?_eq_some_iff.1 hg).1, hb, fun j hj => ?_⟩
    rcases hr with ⟨a, c, e, e'⟩ | ⟨b, o, c, e, _, _, hc⟩
    · subst e'; simp at hn; omega
    · simp only [Value.slice.injEq, Option.some.injEq, Addr.mk.injEq] at e
      obtain ⟨⟨rfl, rfl, _⟩, _⟩ := e
      have := hc j (by omega)
      rwa [Nat.zero_add] at this
set_option maxRecDepth 100000 in
set_option maxHeartbeats 8000000 in
theorem sum_any (rs ps : List Nat) (v u : Value) (w : World) (hv : Row w v (toZ rs)) (hu : Row w u (toZ ps)) (hf : Fit u) (hb : Bas ps) (hrl : rs.length = ps.length) (hr : ∀ i, i < ps.length → rs.getD i 0 < ps.getD i 0) :
    Calls Tryz.prog 78 #[v, u] w fun e w' => e = .returned (.agg (szV (sumN rs ps ps.length))) ∧ Old w w' := by
  have hl6 := hb.len6
  have hl1 := hb.len1
  have csh := fun W h1 h2 => shares_any rs ps v u W h1 h2 hf hb hrl hr
  have HV : Hid (Row w v (toZ rs)) := hv
  have HU : Hid (Row w u (toZ ps)) := hu
  obtain ⟨va, vcap, rfl⟩ : ∃ a c, v = .slice a rs.length c := by have := hv.slice; rwa [toZ_len] at this
  obtain ⟨b2, o2, cap2, rfl, hb2, hc2⟩ := hu.atZ (by omega)
  have HB : Hid (Bas ps) := hb
  have HF : Hid (Fit (.slice (some ⟨b2, o2, none⟩) ps.length cap2)) := hf
  have HYL : Hid (∀ k, k < ps.length → (toZ (yL rs ps)).getD k 0 = ((yN rs ps k : Nat) : Int)) := fun k hk => by rw [toZ_get, yL_get _ _ _ hk]
  have HYN : Hid ((toZ (yL rs ps)).length = ps.length) := by show _ = _; rw [toZ_len, yL_len]
  obtain ⟨T, hT⟩ : ∃ T, sumN rs ps ps.length = T := ⟨_, rfl⟩
  rw [hT]
  have HTT : Hid (sumN rs ps ps.length = T) := hT
  have HLT : Hid ((pad T).length = 80) := by rw [← hT]; exact pad_len' (sumN_cnt hb _ (Nat.le_refl _)) (by omega)
  have HZ : Hid (Sz ((w.alloc (.cells Tryz.zeroCells95 95)).alloc (.cells Tryz.zeroCells95 95)) (w.heap.size + 1) (pad 0) (cnt 0)) := by
    have e : pad 0 = ext [] := by unfold pad; rw [dig_zero]
    show Sz _ _ _ _
    rw [e, cnt_zero]
    exact Sz.zero _ _ (by simp)
  have HY : Hid (Sz ((w.alloc (.cells Tryz.zeroCells95 95)).alloc (.cells Tryz.zeroCells95 95)) w.heap.size (ext []) 0) := (Sz.zero _ _ rfl).alloc _
  have HG0 : Hid (Old w ((w.alloc (.cells Tryz.zeroCells95 95)).alloc (.cells Tryz.zeroCells95 95))) := ((Old.refl w).alloc _).alloc _
  have HS0 : Hid (sumN rs ps 0 = 0) := rfl
  clear hv hu hc2 hb hr hf hT hrl
  unfold szV
  go_enter Tryz.func78, Tryz.ntmps78
  go_wp2_with fail
  refine (csh _ (HV.out.old HG0.out) (HU.out.old HG0.out)).mono ?_
  rintro e w0 ⟨g0, rfl, go0, oo0⟩
  have HGA : Hid (Old w w0) := Old.trans HG0.out go0
  have HZA : Hid (Sz w0 (w.heap.size + 1) (pad 0) (cnt 0)) := HZ.out.old go0
  have HYA : Hid (Sz w0 w.heap.size (ext []) 0) := HY.out.old go0
  have hbg : g0 < w0.heap.size ∧ w.heap.size + 1 + 1 ≤ g0 ∧ ∀ j, j < ps.length → w0.cell? ⟨g0, j, none⟩ = some (.int .i64 ((yN rs ps j : Nat) : Int)) := by
    obtain ⟨h1, h2, h3⟩ := Own.at0 oo0 HYN.out (by omega)
    refine ⟨h1, by simpa using h2, fun j hj => by rw [h3 j hj, HYL.out j hj]⟩
  obtain ⟨hg0, hg1, hgc⟩ := hbg
  have HC1 : Hid (∀ j, j < ps.length → w0.cell? ⟨g0, j, none⟩ = some (.int .i64 ((yN rs ps j : Nat) : Int))) := hgc
  clear go0 oo0 HZ HY HG0 hgc csh
  go_wp2_with fail
  go_loopw [12] (fun j W => ∃ k : Nat, k ≤ ps.length ∧ j = .int .i64 k ∧ Hid (Sz W (w.heap.size + 1) (pad (sumN rs ps k)) (cnt (sumN rs ps k))) ∧ Hid (Sz W w.heap.size (ext []) 0) ∧ Hid (Old w W) ∧ Hid (∀ j, j < ps.length → W.cell? ⟨g0, j, none⟩ = some (.int .i64 ((yN rs ps j : Nat) : Int))) ∧ g0 < W.heap.size) (fun j _ => ps.length - (intOf j).toNat)
  case atStart => exact ⟨0, by omega, rfl, HZA, HYA, HGA, HC1, hg0⟩
  case round =>
    obtain ⟨k, hk, rfl, HS, HR0, HG, HC, hgw⟩ := hrel
    clear HZA HYA HGA HC1
    by_cases hlt : k < ps.length
    · have d1 : decide ((k : Int) < (ps.length : Int)) = true := by simp; omega
      have c1 := HC.out k hlt
      have hyl := yN_lt (rs := rs) HB.out hlt
      have co := fun W h3 => others_any (toZ ps) (.slice (some ⟨b2, o2, none⟩) ps.length cap2) k W h3 HF.out (by rw [toZ_len]; exact hlt) (by rw [toZ_len]; omega)
      rw [oth_toZ] at co
      have cp := fun v' W h3 => productSize_sz (oth ps k) v' W h3 (Nat.le_trans (oth_len ps k) hl6) (fun p hp => HB.out.hi p (oth_mem hp))
      have cs := fun W => scaled_sz (prodN (oth ps k)) (yN rs ps k) 0 W (Nat.le_trans (oth_cnt HB.out hlt) (by omega)) (by omega) (by omega)
      rw [Nat.add_zero] at cs
      have cd := fun W => add_sz (sumN rs ps k) (prodN (oth ps k) * yN rs ps k) W (Nat.le_trans (sumN_cnt HB.out k hk) (by omega)) (Nat.le_trans (part_cnt HB.out hlt) (by omega))
      have HE : Hid (sumN rs ps k + prodN (oth ps k) * yN rs ps k = sumN rs ps (k + 1)) := rfl
      rw [HE.out] at cd
      have HLS : Hid ((pad (sumN rs ps (k + 1))).length = 80) := pad_len' (sumN_cnt HB.out (k + 1) hlt) (by omega)
      unfold szV at cp cs cd
      clear HE
      obtain ⟨S2, hS2⟩ : ∃ S2, sumN rs ps (k + 1) = S2 := ⟨_, rfl⟩
      have HFF : Hid (∀ W, Sz W (w.heap.size + 1) (pad S2) (cnt S2) → Sz W (w.heap.size + 1) (pad (sumN rs ps (k + 1))) (cnt (sumN rs ps (k + 1)))) := fun W h => by rw [hS2]; exact h
      rw [hS2] at cd HLS
      clear hS2
      generalize prodN (oth ps k) * yN rs ps k = pt at *
      generalize prodN (oth ps k) = po at *
      generalize yN rs ps k = y at *
      generalize ps.getD k 0 = p at *
      generalize sumN rs ps k = S1 at *
      have i1 : (k : Int) < (ps.length : Int) := by omega
      go_wp2_with fail
      refine reg_s6 (pad S1) (pad po) (pad pt) (pad S2) (cnt S1) (cnt po) (cnt pt) (cnt S2) (w.heap.size + 1) k y ps.length cap2 (some ⟨b2, o2, none⟩) (toZ (oth ps k)) wr HS HLS (fun W g => (co W (HU.out.old (Old.trans HG.out g))).mono (fun e w' ⟨v', h1, h2, h3⟩ => ⟨v', h1, h2, Own.row h3⟩)) cp cs cd _ _ _ _ _ _ _ _ _ _ _ _ _ _ _ _ _ _ _ _ _ _ _ _ _ ?_
      intro W1 W u17 u18 u19 u20 u21 u22 u23 u24 g5 hW
      have HG5 : Hid (Old w W1) := Old.trans HG.out g5
      have HS5 : Hid (Sz W1 (w.heap.size + 1) (pad S1) (cnt S1)) := HS.out.old g5
      have HR5 : Hid (Sz W1 w.heap.size (ext []) 0) := HR0.out.old g5
      have HC5 : Hid (∀ j, j < ps.length → (W1.setRow (w.heap.size + 1) (szA (pad S2) (cnt S2))).cell? ⟨g0, j, none⟩ = some (.int .i64 ((yN rs ps j : Nat) : Int))) := fun j hj => (World.cell?_of_block (setRow_other W1 (w.heap.size + 1) g0 _ (by omega))).trans ((g5.cell (p := ⟨g0, j, none⟩) hgw).trans (HC.out j hj))
      have hgw5 : g0 < W1.heap.size := Nat.lt_of_lt_of_le hgw g5.size
      subst hW
      clear g5 c1
      go_wp2_with fail
      exact ⟨⟨k + 1, by omega, by go_num, HFF.out _ (HS5.out.row (pad S2) (cnt S2) HLS.out), HR5.out.otherRow (by omega) _, HG5.out.row (by omega) _, HC5, (by simpa using hgw5)⟩, by simp [intOf]; omega⟩
    · have d1 : decide ((k : Int) < (ps.length : Int)) = false := by simp; omega
      obtain rfl : k = ps.length := by omega
      have HS2 : Hid (Sz wr (w.heap.size + 1) (pad T) (cnt T)) := by
        have := HS.out
        rw [HTT.out] at this
        exact this
      clear HS
      go_wp2_with (first | ((with_reducible refine load_sz HS2.out ?_ ?_); exact rfl; simp only [Act.put, List.setIfInBounds_toArray, List.set_cons_succ, List.set_cons_zero]) | ((with_reducible refine store_sz HR0.out (pad T) (cnt T) HLT.out ?_ ?_ ?_); exact rfl; exact rfl; simp only [Act.put]) | ((with_reducible refine bodyPost_ret (ret_sz Tryz.results78 _ _ ?_ (HR0.out.row (pad T) (cnt T) HLT.out)) ?_ ?_); exact rfl; exact rfl; exact ⟨rfl, HG.out.row (Nat.le_refl _) _⟩))
end Go.Proofs.YtfgooclnohnkmaaGreatDoor
