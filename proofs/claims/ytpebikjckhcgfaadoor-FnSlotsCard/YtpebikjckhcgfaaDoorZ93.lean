/- Proved: several texts in one: what each proves is said ahead of it. -/
import Derived.Test.YtpebikjckhcgfaaDoorZ83
import Derived.Test.YtpebikjckhcgfaaDoorZ85
import Derived.Test.YtpebikjckhcgfaaDoorZ87
import Derived.Test.YtpebikjckhcgfaaDoorZ90
import Derived.Test.YtpebikjckhcgfaaDoorZ45
import Derived.Test.YtpebikjckhcgfaaDoorZ88
import Derived.Test.YtpebikjckhcgfaaDoorZ92
import Derived.Test.YtpebikjckhcgfaaDoorZ94
/- Proved: slots come back from their plain; the slots of a product are the products one by one; the slots of a turned plain are the slots moved; as contracts of what the statement on slots calls. -/
namespace Go.Proofs.YtpebikjckhcgfaaDoor
open Go.ChangeShapes Go.WideShapes Go.ChangeAt Go.RowKit
open M1
set_option linter.unusedVariables false
set_option linter.unusedSimpArgs false
/-- a plain's slots out of its transform -/
abbrev dcL (N : Nat) (fs : List Nat) : List Nat := (plL N).map fun k => fs.getD k 0
theorem plL_inj {N : Nat} (h : Sz4 N) : ∀ i, i < N → ∀ j, j < N → (plL N).getD i 0 = (plL N).getD j 0 → i = j := by
  rcases h with rfl | rfl | rfl | rfl <;> decide
theorem enS_get {N : Nat} (xs : List Nat) (h : Sz4 N) : ∀ k, k ≤ N → ∀ j, j < k → (enS N xs k).getD ((plL N).getD j 0) 0 = xs.getD j 0
  | 0, _, j, hj => by omega
  | k + 1, hk, j, hj => by
    have hl := enS_len N xs k
    have hb := plL_bd h k (by omega)
    show ((enS N xs k).set ((plL N).getD k 0) (xs.getD k 0)).getD ((plL N).getD j 0) 0 = _
    by_cases e : j = k
    · subst e
      generalize (plL N).getD j 0 = q at *
      simp [List.getD, List.getElem?_set, hl, hb]
    · have hne : (plL N).getD k 0 ≠ (plL N).getD j 0 := fun e2 => e (plL_inj h k (by omega) j (by omega) e2).symm
      have ih := enS_get xs h k (by omega) j (by omega)
      rw [← ih]
      generalize (plL N).getD k 0 = q at *
      generalize (plL N).getD j 0 = q2 at *
      simp [List.getD, List.getElem?_set, hne]
theorem dc_get {N : Nat} (h : Sz4 N) (fs : List Nat) (j : Nat) (hj : j < N) : (dcL N fs).getD j 0 = fs.getD ((plL N).getD j 0) 0 := by
  have hj2 : j < (plL N).length := by rw [plL_len h]; exact hj
  simp [dcL, List.getD, hj2]
theorem dc_len {N : Nat} (h : Sz4 N) (fs : List Nat) : (dcL N fs).length = N := by rw [List.length_map, plL_len h]
theorem dc_en {N : Nat} (xs : List Nat) (h : Sz4 N) (hl : xs.length = N) : dcL N (enS N xs N) = xs := by
  refine list_eq (by rw [dc_len h, hl]) (fun j hj => ?_)
  rw [hl] at hj
  rw [dc_get h _ j hj, enS_get xs h N (Nat.le_refl _) j hj]
theorem dc_sq {N P : Nat} (xs : List Nat) (h : Sz4 N) (hl : xs.length = N) : dcL N (eachN P N (enS N xs N) (enS N xs N)) = xs.map (fun x => x * x % P) := by
  refine list_eq (by rw [dc_len h, List.length_map, hl]) (fun j hj => ?_)
  rw [List.length_map, hl] at hj
  rw [dc_get h _ j hj, eachN_get _ _ _ _ _ (plL_bd h j hj), enS_get xs h N (Nat.le_refl _) j hj]
  have hj2 : j < xs.length := by omega
  simp [List.getD, hj2]
def tpOk (N t : Nat) : Bool := (uO N t N).length == N && (List.range N).all fun j => (tabN N t).getD ((plL N).getD j 0) 0 == (plL N).getD ((uO N t N).getD j 0) 0 && decide ((uO N t N).getD j 0 < N)
theorem tp2 : ∀ t, t < 4 → t % 2 = 1 → tpOk 2 t = true := by decide +kernel
theorem tp4 : ∀ t, t < 8 → t % 2 = 1 → tpOk 4 t = true := by decide +kernel
theorem tp8 : ∀ t, t < 16 → t % 2 = 1 → tpOk 8 t = true := by decide +kernel
theorem tp16 : ∀ t, t < 32 → t % 2 = 1 → tpOk 16 t = true := by decide +kernel
theorem dc_tu {N t : Nat} (xs : List Nat) (h : Sz4 N) (hl : xs.length = N) (ht : t < 2 * N) (ho : t % 2 = 1) : toZ (dcL N ((tabN N t).map fun p => (enS N xs N).getD p 0)) = pkX (toZ xs) (uO N t N) := by
  have key : tpOk N t = true := by
    rcases h with rfl | rfl | rfl | rfl
    · exact tp2 t ht ho
    · exact tp4 t ht ho
    · exact tp8 t ht ho
    · exact tp16 t ht ho
  unfold tpOk at key
  simp only [Bool.and_eq_true, beq_iff_eq, List.all_eq_true, decide_eq_true_eq] at key
  obtain ⟨k1, k2⟩ := key
  have e : dcL N ((tabN N t).map fun p => (enS N xs N).getD p 0) = (uO N t N).map (fun j => xs.getD j 0) := by
    refine list_eq (by rw [dc_len h, List.length_map, k1]) (fun j hj => ?_)
    rw [List.length_map, k1] at hj
    obtain ⟨k3, k4⟩ := k2 j (by simpa using hj)
    rw [dc_get h _ j hj]
    have hb := plL_bd h j hj
    have hb2 : (plL N).getD j 0 < (tabN N t).length := by rw [tabN_len]; exact hb
    have e1 : ((tabN N t).map fun p => (enS N xs N).getD p 0).getD ((plL N).getD j 0) 0 = (enS N xs N).getD ((tabN N t).getD ((plL N).getD j 0) 0) 0 := by
      generalize (plL N).getD j 0 = q at *
      simp [List.getD, hb2]
    rw [e1, k3, enS_get xs h N (Nat.le_refl _) _ k4]
    have hj2 : j < (uO N t N).length := by rw [k1]; exact hj
    simp [List.getD, hj2]
  rw [e]
  show ((uO N t N).map (fun j => xs.getD j 0)).map _ = (uO N t N).map _
  rw [List.map_map]
  exact List.map_congr_left (fun j _ => (toZ_get xs j).symm)
/-- a list that is told, and whether -/
def LbS (W : World) (zs : List Int) (ok : Bool) (e : Ending) (w' : World) : Prop := ∃ v', e = .returned (.tuple #[v', .bool ok]) ∧ Old W w' ∧ Own w' W.heap.size v' zs
def LlS (W : World) (zs : List Int) (e : Ending) (w' : World) : Prop := ∃ v', e = .returned v' ∧ Old W w' ∧ Own w' W.heap.size v' zs
set_option maxRecDepth 100000 in
set_option maxHeartbeats 1000000 in
theorem product_any (p n r : Int) (zs : List Int) (v u : Value) (w : World) (xs ys : List Int) (hv : Row w v xs) (hu : Row w u ys)
    (c : ∀ W, Old w W → Calls Tryd.prog 73 #[.agg #[.int .i64 p, .int .i64 n, .int .i64 r], v, u] W (LlS W zs)) :
    Calls Tryd.prog 20 #[.agg #[.int .i64 p, .int .i64 n, .int .i64 r], v, u] w (LlS w zs) := by
  have HA : Hid (Old w (w.alloc (.cells #[.int .i64 p, .int .i64 n, .int .i64 r] 30))) := (Old.refl w).alloc _
  have q0 : (w.alloc (.cells #[.int .i64 p, .int .i64 n, .int .i64 r] 30)).cell? ⟨w.heap.size, 0, none⟩ = some (.int .i64 p) := (cell_at _ _ _ _ 0 rfl).trans rfl
  have q1 : (w.alloc (.cells #[.int .i64 p, .int .i64 n, .int .i64 r] 30)).cell? ⟨w.heap.size, 1, none⟩ = some (.int .i64 n) := (cell_at _ _ _ _ 1 rfl).trans rfl
  have q2 : (w.alloc (.cells #[.int .i64 p, .int .i64 n, .int .i64 r] 30)).cell? ⟨w.heap.size, 2, none⟩ = some (.int .i64 r) := (cell_at _ _ _ _ 2 rfl).trans rfl
  have C := c _ HA.out
  obtain ⟨a1, c1, rfl⟩ := hv.slice
  obtain ⟨a2, c2, rfl⟩ := hu.slice
  clear hv hu c
  go_enter Tryd.func20, Tryd.ntmps20
  go_wp2_with fail
  refine C.mono ?_
  rintro e w1 ⟨v1, rfl, g1, o1⟩
  have HG : Hid (Old w w1) := Old.trans HA.out g1
  have HO : Hid (Own w1 w.heap.size v1 zs) := o1.low HA.out.size
  obtain ⟨a3, c3, rfl⟩ := (Own.row o1).slice
  clear g1 o1 C
  go_wp2_with fail
  go_ret
  exact ⟨_, rfl, HG.out, HO.out⟩
set_option maxRecDepth 100000 in
set_option maxHeartbeats 1000000 in
theorem moved_spec (p n r g : Int) (zs : List Int) (v : Value) (w : World) (xs : List Int) (hv : Row w v xs)
    (c : ∀ W, Old w W → Calls Tryd.prog 81 #[.int .i64 p, .int .i64 n, v, .int .i64 g] W (LlS W zs)) :
    Calls Tryd.prog 23 #[.agg #[.int .i64 p, .int .i64 n, .int .i64 r], v, .int .i64 g] w (LlS w zs) := by
  have HA : Hid (Old w (w.alloc (.cells #[.int .i64 p, .int .i64 n, .int .i64 r] 30))) := (Old.refl w).alloc _
  have q0 : (w.alloc (.cells #[.int .i64 p, .int .i64 n, .int .i64 r] 30)).cell? ⟨w.heap.size, 0, none⟩ = some (.int .i64 p) := (cell_at _ _ _ _ 0 rfl).trans rfl
  have q1 : (w.alloc (.cells #[.int .i64 p, .int .i64 n, .int .i64 r] 30)).cell? ⟨w.heap.size, 1, none⟩ = some (.int .i64 n) := (cell_at _ _ _ _ 1 rfl).trans rfl
  have C := c _ HA.out
  obtain ⟨a1, c1, rfl⟩ := hv.slice
  clear hv c
  go_enter Tryd.func23, Tryd.ntmps23
  go_wp2_with fail
  refine C.mono ?_
  rintro e w1 ⟨v1, rfl, g1, o1⟩
  have HG : Hid (Old w w1) := Old.trans HA.out g1
  have HO : Hid (Own w1 w.heap.size v1 zs) := o1.low HA.out.size
  obtain ⟨a3, c3, rfl⟩ := (Own.row o1).slice
  clear g1 o1 C
  go_wp2_with fail
  go_ret
  exact ⟨_, rfl, HG.out, HO.out⟩
/-- all that the statement asks of the functions -/
def SlK (w : World) (n t : Int) (xs : List Int) : Prop := ∃ (ok : Bool) (ms : List Int), ms.length ≤ 16 ∧ (ok = false → ms = []) ∧
  (∀ W v, Old w W → Row W v xs → Calls Tryd.prog 16 #[.int .i64 n, .int .i64 t, v] W (LbS W ms ok)) ∧
  (∀ W v, Old w W → Row W v xs → Calls Tryd.prog 17 #[.int .i64 n, .int .i64 t, v] W (LbS W ms ok)) ∧
  (ok = true → ∃ (N T : Nat) (ys : List Nat) (ps : List Int), n = N ∧ t = T ∧ xs = toZ ys ∧ ys.length = N ∧ Sz4 N ∧ (∀ y ∈ ys, y < T) ∧
    (∀ W v, Old w W → Row W v ms → Calls Tryd.prog 18 #[.int .i64 n, .int .i64 t, v] W (LbS W xs true)) ∧
    (∀ W v u, Old w W → Row W v ms → Row W u ms → Calls Tryd.prog 20 #[.agg #[.int .i64 t, .int .i64 n, .int .i64 0], v, u] W (LlS W ps)) ∧
    (∀ W v, Old w W → Row W v ps → Calls Tryd.prog 18 #[.int .i64 n, .int .i64 t, v] W (LbS W (toZ (ys.map fun x => x * x % T)) true)) ∧
    (∀ g : Nat, g < 2 * N → g % 2 = 1 → ∃ us zs : List Int, zs.length ≤ 1000 ∧
      (∀ W v, Old w W → Row W v ms → Calls Tryd.prog 23 #[.agg #[.int .i64 t, .int .i64 n, .int .i64 0], v, .int .i64 g] W (LlS W us)) ∧
      (∀ W v, Old w W → Row W v us → Calls Tryd.prog 18 #[.int .i64 n, .int .i64 t, v] W (LbS W zs true)) ∧
      (∀ W v, Old w W → Row W v xs → Fit v → Calls Tryd.prog 22 #[.int .i64 n, v, .int .i64 g] W (LbS W zs true))))
theorem polyB_mk {P N : Nat} {ys : List Nat} (hl : ys.length = N) (h : ∀ y ∈ ys, y < P) : polyB P N (toZ ys) = true := by
  simp only [polyB, Bool.and_eq_true, List.all_eq_true]
  refine ⟨by simp [hl], fun x hx => ?_⟩
  obtain ⟨y, hy, rfl⟩ := List.mem_map.1 hx
  have := h y hy
  simp [resB]
  omega
theorem dec_any {P N R : Nat} (h : RingOk P N) (hS : Sz4 N) (hPp : 2 ≤ P ∧ P ≤ 268435456) (hlt : R < P) (ci : ∀ W, PrsW W → TabW W → Calls Tryd.prog 61 #[.int .i64 P, .int .i64 N] W fun e w' => e = .returned (.tuple #[.agg #[.int .i64 P, .int .i64 N, .int .i64 R], .bool true]) ∧ Old W w') (r1 : Cg P ((R : Int) ^ (2 * N)) 1) (r2 : Cg P ((R : Int) ^ N) (-1))
    (as1 : List Nat) (la : as1.length = N) (ha : ∀ y ∈ as1, y < P) (W : World) (v : Value) (hP : PrsW W) (hT : TabW W) (h1 : Row W v (toZ as1)) :
    Calls Tryd.prog 18 #[.int .i64 N, .int .i64 P, v] W (LbS W (toZ (dcL N (fwdS P N R as1))) true) := by
  have hb := sz_bd hS
  have hpo := polyB_mk la ha
  have e := fwd_same P N R as1 hS la (by omega) ha r1 r2
  refine impl_DecodeSlots_yes N P R v _ (fwdS P N R as1) W hS h1 (fwdS_len _ _ _ _) hP hT ci (fun W' q => ?_) (fun W' q => ?_)
  · have := impl_poly P N R (toZ as1) v W' (h1.old q) (by rw [toZ_len]; omega) (by omega)
    rw [hpo] at this
    exact this
  · have := impl_forward P N R as1 v W' (hT.old q) (h1.old q) hPp hS hlt la ha
    rw [e] at this
    exact this
theorem slK_any (w : World) (n t : Int) (xs : List Int) (hs : sz4I n) (ht : 4 ≤ t ∧ t ≤ 65537) (lx : xs.length ≤ 17) (hP : PrsW w) (hT : TabW w) : SlK w n t xs := by
  have hlv : xs.length ≤ 9223372036854775807 := by omega
  by_cases h : RingOk t n
  · obtain ⟨P, rfl⟩ := Int.eq_ofNat_of_zero_le (show 0 ≤ t by omega)
    obtain ⟨N, rfl⟩ := Int.eq_ofNat_of_zero_le (show 0 ≤ n by have := h.sz; omega)
    have hPp : 2 ≤ P ∧ P ≤ 268435456 := by omega
    have hS : Sz4 N := by have := h.sz; omega
    have hb := sz_bd hS
    obtain ⟨R, hlt, hrt, ci, cs⟩ := Ring_both P N h
    have hpi : ∀ W v, Row W v xs → Calls Tryd.prog 62 #[.agg #[.int .i64 P, .int .i64 N, .int .i64 R], v] W fun e w' => e = .returned (.bool (polyB P N xs)) ∧ Old W w' := fun W v hv => impl_poly P N R xs v W hv hlv (by omega)
    have hps : ∀ W v, Row W v xs → Calls Tryd.prog 66 #[.agg #[.int .i64 P, .int .i64 N, .int .i64 0], v] W fun e w' => e = .returned (.bool (polyB P N xs)) ∧ Old W w' := fun W v hv => spec_poly P N 0 xs v W hv hlv (by omega)
    cases hpo : polyB P N xs
    · rw [hpo] at hpi hps
      exact ⟨false, [], by simp, fun _ => rfl,
        (fun W v q h1 => (impl_EncodeSlots_no2 _ _ _ _ _ v xs W h1 (hP.old q) (hT.old q) ci (fun W' q => hpi W' v (h1.old q))).mono fun e w' ⟨h1, h2⟩ => ⟨_, h1, h2, own_nil _ _⟩),
        (fun W v q h1 => (spec_EncodeSlots_no2 _ _ v xs W h1 (fun W' q => spec_MaySlot_yes N P W' h) (fun W' q => hps W' v (h1.old q))).mono fun e w' ⟨h1, h2⟩ => ⟨_, h1, h2, own_nil _ _⟩),
        fun e => by cases e⟩
    · rw [hpo] at hpi hps
      obtain ⟨as1, rfl, la, ha⟩ := polyB_yes hpo
      obtain ⟨r1, r2⟩ := (hrt (ring_pr h)).cg hPp.1
      have hel := enS_len N as1 N
      have het := enS_lt (N := N) (P := P) (xs := as1) (by omega) ha N
      have e := inv_same P N R (enS N as1 N) hS hel hPp.1 het r1 r2
      have hodd : P % 2 = 1 := by
        have h5 := h.dv
        have : ((P : Int) - 1) % 2 = 0 := by
          rw [← Int.emod_emod_of_dvd ((P : Int) - 1) (show (2 : Int) ∣ 2 * (N : Int) from ⟨_, rfl⟩), h5]
          rfl
        omega
      have fi := fwd_inv P N R (enS N as1 N) hS hel hPp.1 hodd het r1 r2
      have mlt : ∀ x ∈ invL P N R (enS N as1 N), x < P := fun x hx => by
        unfold invL at hx
        rw [List.mem_map] at hx
        obtain ⟨i, _, rfl⟩ := hx
        exact Nat.mod_lt _ (by omega)
      have mll := invL_len P N R (enS N as1 N)
      have dk := fun as1 la ha W v hP hT h1 => dec_any h hS hPp hlt ci r1 r2 as1 la ha W v hP hT h1
      refine ⟨true, toZ (invL P N R (enS N as1 N)), by rw [toZ_len, mll]; omega, (fun e => by cases e),
        (fun W v q h1 => impl_EncodeSlots_yes N P R v as1 (invL P N R (enS N as1 N)) W hS h1 la (hP.old q) (hT.old q) ci (fun W' q => hpi W' v (h1.old q)) (fun W' u hT' hu => by
          have := impl_inverse0 P N R (enS N as1 N) u W' hT' hu hPp hS hlt hel het
          rw [e] at this
          exact this)),
        (fun W v q h1 => spec_EncodeSlots_yes N P R v as1 (invL P N R (enS N as1 N)) W hS h1 la (fun W' q => spec_MaySlot_yes N P W' h) (fun W' q => hps W' v (h1.old q)) cs (fun W' u hu => spec_l3Inverse P N R (enS N as1 N) u W' hu hPp hS hlt hel het (invM_ltI _ _ (by omega)) (invM_ltI _ _ (by omega)))),
        fun _ => ⟨N, P, as1, toZ (muO P N (invL P N R (enS N as1 N)) (invL P N R (enS N as1 N)) N), rfl, rfl, rfl, la, hS, ha, (fun W v q h1 => ?_), (fun W v u q h1 h2 => ?_), (fun W v q h1 => ?_), (fun g hg ho => ?_)⟩⟩
      · have := dk _ mll mlt W v (hP.old q) (hT.old q) h1
        rw [fi, dc_en as1 hS la] at this
        exact this
      · exact product_any _ _ _ _ v u W _ _ h1 h2 (fun W' q' => spec_l3Mul P N 0 _ _ v u W' (h1.old q') (h2.old q') hPp hb mll mll mlt mlt)
      · have := dk _ (muO_len P N _ _ N) (muO_lt P N _ _ (by omega) N) W v (hP.old q) (hT.old q) h1
        rw [fwd_mul P N R _ _ hS hPp.1 r2, fi, dc_sq as1 hS la] at this
        exact this
      · have htl : (tuN P N g (invL P N R (enS N as1 N))).length = N := tuN_len _ _ _ _
        have htt := tu_lt P N g (invL P N R (enS N as1 N)) hPp.1 (by omega) mlt
        have hul := uO_len N g hb.2 N
        refine ⟨toZ (tuN P N g (invL P N R (enS N as1 N))), pkX (toZ as1) (uO N g N), by rw [List.length_map]; omega, (fun W v q h1 => ?_), (fun W v q h1 => ?_), (fun W v q h1 hf => ?_)⟩
        · refine moved_spec _ _ _ _ _ v W _ h1 (fun W' q' => ?_)
          have := spec_turned P N R g _ v W' (h1.old q') hPp hb mll mlt hg
          rw [tu_toZ P N g _ hPp.1 (by omega) mlt] at this
          exact this
        · have := dk _ htl htt W v (hP.old q) (hT.old q) h1
          rw [fwd_tu P N R g _ hS mll hPp.1 hodd mlt hg ho r1 r2, fi, dc_tu as1 hS la hg ho] at this
          exact this
        · obtain ⟨j, hj, e1, e2, e3⟩ := mv_same (toZ as1) hS hg ho (by rw [toZ_len]; exact la)
          have := impl_MovedSlots_yes N j g (toZ as1) v W h1 hf hS (by rw [toZ_len]; exact la) (hT.old q) hj (by rw [e1]) (fun i hi => by have := e2 i hi; omega)
          rw [e3] at this
          exact this
  · exact ⟨false, [], by simp, fun _ => rfl,
      (fun W v q h1 => (impl_EncodeSlots_no1 _ _ v xs W h1 (hP.old q) (hT.old q) (fun W' a b => impl_RingOf_no t n W' a b h)).mono fun e w' ⟨h1, h2⟩ => ⟨_, h1, h2, own_nil _ _⟩),
      (fun W v q h1 => (spec_EncodeSlots_no1 _ _ v xs W h1 (fun W' q => spec_MaySlot_no n t W' (by omega) h)).mono fun e w' ⟨h1, h2⟩ => ⟨_, h1, h2, own_nil _ _⟩),
      fun e => by cases e⟩
end Go.Proofs.YtpebikjckhcgfaaDoor
/- Proved: the walk of the statement on slots, in a world in which the tables are laid. -/
namespace Go.Proofs.YtpebikjckhcgfaaDoor
open Go.ChangeShapes Go.WideShapes Go.ChangeAt Go.RowKit
set_option linter.unusedVariables false
set_option linter.unusedSimpArgs false
theorem Hid.mkS {p : Prop} (h : p) : Hid p := h
theorem bysW_oldS {w w' : World} {v : Value} {len : Nat} (h : BysW w v len) (g : Old w w') : BysW w' v len := by
  rcases h with h1 | ⟨b, o, cap, e, hb, hbt⟩
  · exact Or.inl h1
  · refine Or.inr ⟨b, o, cap, e, Nat.lt_of_lt_of_le hb g.size, fun j hj => ?_⟩
    obtain ⟨x, hx, hxc⟩ := hbt j hj
    exact ⟨x, hx, (g.cell (p := ⟨b, o + j, none⟩) hb).trans hxc⟩
theorem bys_sl {w : World} {v : Value} {len : Nat} (h : BysW w v len) : ∃ a c, v = .slice a len c := by
  rcases h with ⟨a, cap, e, e2⟩ | ⟨b, o, cap, e, _⟩
  · exact ⟨a, cap, by rw [e, e2]⟩
  · exact ⟨_, cap, e⟩
theorem own_fitS {w : World} {base : Nat} {a : Option Addr} {c : Nat} {xs : List Int} (h : Own w base (.slice a xs.length c) xs) : xs.length ≤ c := by
  rcases h.2 with ⟨e, e2⟩ | ⟨p, cap, cur, e, _, _, hc, _⟩
  · rw [e2]; exact Nat.zero_le _
  · injection e with _ _ e3
    rw [e3]
    exact hc
set_option maxRecDepth 100000 in
set_option maxHeartbeats 8000000 in
theorem law_Slots (w : World) (code more : Value) (len len2 : Nat) (h : BysW w code len) (h2 : BysW w more len2) (hl : len ≤ 9223372036854775807) (hl2 : len2 ≤ 9223372036854775807) (hP : PrsW w) (hT : TabW w) :
    Calls Tryd.prog 3 #[code, more] w fun e w' => e = .returned (.bool true) ∧ Old w w' := by
  have KD : Hid (Calls Tryd.prog 15 #[code] w (Ds w)) := drawEncodeSlots_c w code len h hl
  have KN : Hid (∀ W, Old w W → Calls Tryd.prog 21 #[more] W fun e w' => ∃ n : Nat, e = .returned (.int .i64 n) ∧ n < 1000003 ∧ w' = W) := fun W q => numberOf_c W more len2 (bysW_oldS h2 q) hl2
  obtain ⟨ca, ccap, hcode⟩ := bys_sl h
  obtain ⟨cb, bcap, hmore⟩ := bys_sl h2
  subst hcode hmore
  have HTK : Hid (∀ (n t : Int) (xs : List Int), sz4I n → (4 ≤ t ∧ t ≤ 65537) → xs.length ≤ 17 → SlK w n t xs) := fun n t xs h1 h2 h3 => slK_any w n t xs h1 h2 h3 hP hT
  clear h h2 hP hT
  obtain ⟨S, hS⟩ : ∃ S, wrap64 ((len : Int) + (len2 : Int)) = S := ⟨_, rfl⟩
  by_cases hbig : (1048576 : Int) < S
  · have dL : decide ((1048576 : Int) < S) = true := decide_eq_true hbig
    go_enter Tryd.func3, Tryd.ntmps3
    go_wp2_with fail
    go_ret
    exact ⟨rfl, Old.refl _⟩
  have dL : decide ((1048576 : Int) < S) = false := decide_eq_false hbig
  go_enter Tryd.func3, Tryd.ntmps3
  go_wp2_with fail
  refine KD.out.mono ?_
  rintro e w1 ⟨n, t, ax, cx, xs, rfl, hn, ht, lx, g1, o1⟩
  obtain ⟨ok, ms, lm, hno, ke, ks, kall⟩ := HTK.out n t xs hn ht lx
  have hfx : xs.length ≤ cx := own_fitS o1
  have HG1 : Hid (Old w w1) := g1
  have RX1 : Hid (Row w1 (.slice ax xs.length cx) xs) := Own.row o1
  have KE := ke _ _ HG1.out RX1.out
  have KS : Hid (∀ W v, Old w W → Row W v xs → Calls Tryd.prog 17 #[.int .i64 n, .int .i64 t, v] W (LbS W ms ok)) := ks
  have KA := Hid.mkS kall
  have HNO : Hid (ok = false → ms = []) := hno
  have HN : Hid (sz4I n) := hn
  have HTT : Hid (4 ≤ t ∧ t ≤ 65537) := ht
  clear g1 o1 ke ks kall hno KD HTK hn ht
  go_wp2_with fail
  refine KE.mono ?_
  rintro e w2 ⟨v2, rfl, g2, o2⟩
  obtain ⟨a2, c2, rfl⟩ := (Own.row o2).slice
  have HG2 : Hid (Old w w2) := Old.trans HG1.out g2
  have RX2 : Hid (Row w2 (.slice ax xs.length cx) xs) := RX1.out.old g2
  have RM2 : Hid (Row w2 (.slice a2 ms.length c2) ms) := Own.row o2
  clear g2 o2 HG1 RX1 KE
  go_wp2_with fail
  refine (KS.out _ _ HG2.out RX2.out).mono ?_
  rintro e w3 ⟨v3, rfl, g3, o3⟩
  obtain ⟨a3, c3, rfl⟩ := (Own.row o3).slice
  have HG3 : Hid (Old w w3) := Old.trans HG2.out g3
  have RX3 : Hid (Row w3 (.slice ax xs.length cx) xs) := RX2.out.old g3
  have RM3 : Hid (Row w3 (.slice a2 ms.length c2) ms) := RM2.out.old g3
  clear g3 o3 HG2 RX2 RM2 KS
  cases ok
  · obtain rfl := HNO.out rfl
    clear KA
    go_wp2_with fail
    go_ret
    exact ⟨rfl, HG3.out⟩
  obtain ⟨N, T, ys, ps, rfl, rfl, rfl, hyl, hS4, hyt, kd, kp, kq, kg⟩ := KA.out rfl
  have KDc : Hid (∀ W v, Old w W → Row W v ms → Calls Tryd.prog 18 #[.int .i64 N, .int .i64 T, v] W (LbS W (toZ ys) true)) := kd
  have KP : Hid (∀ W v u, Old w W → Row W v ms → Row W u ms → Calls Tryd.prog 20 #[.agg #[.int .i64 T, .int .i64 N, .int .i64 0], v, u] W (LlS W ps)) := kp
  have KQ : Hid (∀ W v, Old w W → Row W v ps → Calls Tryd.prog 18 #[.int .i64 N, .int .i64 T, v] W (LbS W (toZ (ys.map fun x => x * x % T)) true)) := kq
  have KG := Hid.mkS kg
  have HYL : Hid (ys.length = N) := hyl
  have HYT : Hid (∀ y ∈ ys, y < T) := hyt
  have hN := sz_bd hS4
  have hT4 := HTT.out
  have HS4 : Hid (Sz4 N) := hS4
  rw [toZ_len, hyl] at RX3 hfx lx ⊢
  clear kd kp kq kg KA HNO hyl hyt HTT HN hS4
  go_wp2_with fail
  refine (KDc.out _ _ HG3.out RM3.out).mono ?_
  rintro e w4 ⟨v4, rfl, g4, o4⟩
  obtain ⟨a4, c4, e4⟩ := (Own.row o4).slice
  rw [toZ_len, HYL.out] at e4
  subst e4
  have HG4 : Hid (Old w w4) := Old.trans HG3.out g4
  have RX4 : Hid (Row w4 (.slice ax N cx) (toZ ys)) := RX3.out.old g4
  have RM4 : Hid (Row w4 (.slice a2 ms.length c2) ms) := RM3.out.old g4
  have c5 := same_yes (toZ ys) _ _ w4 (Own.row o4) RX4.out (by rw [toZ_len, HYL.out]; omega)
  clear g4 o4 HG3 RX3 RM3
  go_wp2_with fail
  refine c5.mono ?_
  rintro e w5 ⟨rfl, g5⟩
  have gA : Old w5 (w5.alloc (.cells #[.int .i64 T, .int .i64 N, .int .i64 0] 30)) := (Old.refl w5).alloc _
  have HG5 : Hid (Old w (w5.alloc (.cells #[.int .i64 T, .int .i64 N, .int .i64 0] 30))) := Old.trans (Old.trans HG4.out g5) gA
  have RX5 : Hid (Row (w5.alloc (.cells #[.int .i64 T, .int .i64 N, .int .i64 0] 30)) (.slice ax N cx) (toZ ys)) := (RX4.out.old g5).old gA
  have RM5 : Hid (Row (w5.alloc (.cells #[.int .i64 T, .int .i64 N, .int .i64 0] 30)) (.slice a2 ms.length c2) ms) := (RM4.out.old g5).old gA
  have HR5 : Hid (Rc (w5.alloc (.cells #[.int .i64 T, .int .i64 N, .int .i64 0] 30)) w5.heap.size T N 0) := Rc.new w5 _ _ _
  have x0 := HR5.out.c0
  have x1 := HR5.out.c1
  have x2 := HR5.out.c2
  clear g5 gA c5 HG4 RX4 RM4
  go_wp2_with fail
  refine (KP.out _ _ _ HG5.out RM5.out RM5.out).mono ?_
  rintro e w6 ⟨v6, rfl, g6, o6⟩
  obtain ⟨a6, c6, rfl⟩ := (Own.row o6).slice
  have HG6 : Hid (Old w w6) := Old.trans HG5.out g6
  have RX6 : Hid (Row w6 (.slice ax N cx) (toZ ys)) := RX5.out.old g6
  have RM6 : Hid (Row w6 (.slice a2 ms.length c2) ms) := RM5.out.old g6
  have HR6 : Hid (Rc w6 w5.heap.size T N 0) := HR5.out.old g6
  have RP6 : Hid (Row w6 (.slice a6 ps.length c6) ps) := Own.row o6
  clear g6 o6 HG5 RX5 RM5 HR5 x0 x1 x2 KP
  go_wp2_with fail
  refine (KQ.out _ _ HG6.out RP6.out).mono ?_
  rintro e w7 ⟨v7, rfl, g7, o7⟩
  have hsl : (ys.map fun x => x * x % T).length = N := by rw [List.length_map]; exact HYL.out
  obtain ⟨b7, o7', c7, e7, hb7, hc7⟩ := (Own.row o7).atZ (by rw [hsl]; omega)
  rw [hsl] at e7 hc7
  subst e7
  have HG7 : Hid (Old w w7) := Old.trans HG6.out g7
  have RX7 : Hid (Row w7 (.slice ax N cx) (toZ ys)) := RX6.out.old g7
  have RM7 : Hid (Row w7 (.slice a2 ms.length c2) ms) := RM6.out.old g7
  have HR7 : Hid (Rc w7 w5.heap.size T N 0) := HR6.out.old g7
  have HSQ : Hid (∀ j, j < N → w7.cell? ⟨b7, o7' + j, none⟩ = some (.int .i64 ((ys.getD j 0 * ys.getD j 0 % T : Nat) : Int))) := fun j hj => by
    rw [hc7 j hj]
    have hj2 : j < ys.length := by rw [HYL.out]; exact hj
    simp [List.getD, hj2]
  obtain ⟨bx, ox, capx, ex, hbx, hcx⟩ := RX7.out.atZ (by rw [HYL.out]; omega)
  rw [HYL.out] at ex hcx
  injection ex with ex1 ex2 ex3
  subst ex1 ex3
  have HXX : Hid (∀ j, j < N → w7.cell? ⟨bx, ox + j, none⟩ = some (.int .i64 ((ys.getD j 0 : Nat) : Int))) := hcx
  clear g7 o7 HG6 RX6 RM6 HR6 RP6 KQ hc7 hcx hsl
  go_wp2_with fail
  go_loopw [90] (fun i W => ∃ k : Nat, k ≤ N ∧ i = .int .i64 k ∧ Hid (Old w7 W)) (fun i _ => N - (intOf i).toNat)
  case atStart => exact ⟨0, by omega, rfl, Old.refl _⟩
  case round =>
    obtain ⟨k, hk, rfl, HGk⟩ := hrel
    by_cases hlt : k < N
    · have d1 : decide ((k : Int) < (N : Int)) = true := by simp; omega
      have ki : (k : Int) < (N : Int) := by omega
      have y0 := (HGk.out.cell (p := ⟨bx, ox + k, none⟩) hbx).trans (HXX.out k hlt)
      have y1 := (HGk.out.cell (p := ⟨b7, o7' + k, none⟩) hb7).trans (HSQ.out k hlt)
      have hyk : ys.getD k 0 < T := getD_lt HYT.out (by omega) k
      generalize ys.getD k 0 = y at *
      have hyy : y * y ≤ 4295098369 := Nat.mul_le_mul (show y ≤ 65537 by omega) (show y ≤ 65537 by omega)
      have e1 : (y : Int) * (y : Int) = ((y * y : Nat) : Int) := by simp
      have e2 : ((y * y : Nat) : Int) % (T : Int) = ((y * y % T : Nat) : Int) := by simp
      have e3 : ((y * y : Nat) : Int).tmod (T : Int) = ((y * y % T : Nat) : Int) := by rw [Int.tmod_eq_emod_of_nonneg (by omega)]; exact e2
      have w1' : IntKind.i64.wrap ((y * y : Nat) : Int) = ((y * y : Nat) : Int) := by rw [IntKind.wrap_i64]; omega
      have hT0 : ¬ T = 0 := by omega
      have hq : y * y % T < T := Nat.mod_lt _ (by omega)
      generalize y * y % T = q at *
      have w2' : IntKind.i64.wrap (q : Int) = (q : Int) := by rw [IntKind.wrap_i64]; omega
      generalize y * y = m at *
      have dq : ((q : Int) != (q : Int)) = false := by simp
      go_wp2_with fail
      refine wp_region_noPanic ?_
      go_region_with fail
      all_goals
        refine NoPanic.normal ?_
        go_wp2_with fail
        exact ⟨⟨k + 1, by omega, by go_num, Below.drew HGk.out⟩, by simp [intOf]; omega⟩
    · obtain rfl : N = k := by omega
      have d1 : decide ((N : Int) < (N : Int)) = false := by simp
      have HG8 : Hid (Old w wr) := Old.trans HG7.out HGk.out
      have RX8 : Hid (Row wr (.slice (some ⟨bx, ox, none⟩) N cx) (toZ ys)) := RX7.out.old HGk.out
      have RM8 : Hid (Row wr (.slice a2 ms.length c2) ms) := RM7.out.old HGk.out
      have HR8 : Hid (Rc wr w5.heap.size T N 0) := HR7.out.old HGk.out
      clear HG7 RX7 RM7 HR7 HGk HSQ HXX hk hlt hb7 hbx
      go_wp2_with fail
      refine (KN.out _ HG8.out).mono ?_
      rintro e w9 ⟨nn, rfl, hnn, hw9⟩
      obtain rfl := hw9.symm
      obtain ⟨q, hq⟩ : ∃ q, nn % N = q := ⟨_, rfl⟩
      have hqN : q < N := by rw [← hq]; exact Nat.mod_lt _ (by omega)
      have e2 : (nn : Int) % (N : Int) = (q : Int) := by rw [← hq]; simp
      have e3 : (nn : Int).tmod (N : Int) = (q : Int) := by rw [Int.tmod_eq_emod_of_nonneg (by omega)]; exact e2
      obtain ⟨G, hG⟩ : ∃ G, 2 * q + 1 = G := ⟨_, rfl⟩
      have e4 : 2 * (q : Int) + 1 = (G : Int) := by omega
      have hN0 : ¬ N = 0 := by omega
      obtain ⟨us, zs, lz, k1, k2, k3⟩ := KG.out G (by omega) (by omega)
      have K1 : Hid (∀ W v, Old w W → Row W v ms → Calls Tryd.prog 23 #[.agg #[.int .i64 T, .int .i64 N, .int .i64 0], v, .int .i64 G] W (LlS W us)) := k1
      have K2 : Hid (∀ W v, Old w W → Row W v us → Calls Tryd.prog 18 #[.int .i64 N, .int .i64 T, v] W (LbS W zs true)) := k2
      have K3 := k3 wr (.slice (some ⟨bx, ox, none⟩) N cx) HG8.out RX8.out hfx
      have q16 : q ≤ 16 := by omega
      clear k1 k2 k3 KG hq hG hnn hw9
      go_wp2_with fail
      refine K3.mono ?_
      rintro e w10 ⟨v10, rfl, g10, o10⟩
      obtain ⟨a10, c10, rfl⟩ := (Own.row o10).slice
      have HG10 : Hid (Old w w10) := Old.trans HG8.out g10
      have RM10 : Hid (Row w10 (.slice a2 ms.length c2) ms) := RM8.out.old g10
      have HR10 : Hid (Rc w10 w5.heap.size T N 0) := HR8.out.old g10
      have RV10 : Hid (Row w10 (.slice a10 zs.length c10) zs) := Own.row o10
      have x0 := HR10.out.c0
      have x1 := HR10.out.c1
      have x2 := HR10.out.c2
      clear g10 o10 HG8 RX8 RM8 HR8 K3
      go_wp2_with fail
      refine (K1.out _ _ HG10.out RM10.out).mono ?_
      rintro e w11 ⟨v11, rfl, g11, o11⟩
      obtain ⟨a11, c11, rfl⟩ := (Own.row o11).slice
      have HG11 : Hid (Old w w11) := Old.trans HG10.out g11
      have RV11 : Hid (Row w11 (.slice a10 zs.length c10) zs) := RV10.out.old g11
      have RU11 : Hid (Row w11 (.slice a11 us.length c11) us) := Own.row o11
      clear g11 o11 HG10 RM10 HR10 RV10 x0 x1 x2 K1
      go_wp2_with fail
      refine (K2.out _ _ HG11.out RU11.out).mono ?_
      rintro e w12 ⟨v12, rfl, g12, o12⟩
      obtain ⟨a12, c12, rfl⟩ := (Own.row o12).slice
      have HG12 : Hid (Old w w12) := Old.trans HG11.out g12
      have c13 := same_yes zs _ _ w12 (RV11.out.old g12) (Own.row o12) (by omega)
      clear g12 o12 HG11 RV11 RU11 K2
      go_wp2_with fail
      refine c13.mono ?_
      rintro e w13 ⟨rfl, g13⟩
      have HG13 : Hid (Old w w13) := Old.trans HG12.out g13
      clear g13 c13
      go_wp2_with fail
      go_ret
      exact ⟨rfl, HG13.out⟩
end Go.Proofs.YtpebikjckhcgfaaDoor
