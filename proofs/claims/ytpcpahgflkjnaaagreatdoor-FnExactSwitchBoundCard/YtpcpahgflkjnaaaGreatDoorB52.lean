/- Proved: several texts in one: what each proves is said ahead of it. -/
import Derived.Test.YtpcpahgflkjnaaaGreatDoorNi
import Derived.Test.YtpcpahgflkjnaaaGreatDoorRkb
import Derived.Test.YtpcpahgflkjnaaaGreatDoorB08
import Derived.Test.YtpcpahgflkjnaaaGreatDoorB47
import Derived.Test.YtpcpahgflkjnaaaGreatDoorB02
import Derived.Test.YtpcpahgflkjnaaaGreatDoorB22
import Derived.Test.YtpcpahgflkjnaaaGreatDoorB00
import Derived.Test.YtpcpahgflkjnaaaGreatDoorB05
import Derived.Test.YtpcpahgflkjnaaaGreatDoorMlr
import Derived.Test.YtpcpahgflkjnaaaGreatDoorB07
import Derived.KernelRfl
import Derived.Test.YtpcpahgflkjnaaaGreatDoorB49
/- Proved: the program's readBound by numbers; boundBy. -/
namespace Go.Proofs.YtpcpahgflkjnaaaGreatDoor
open Go.ChangeShapes Go.WideShapes Go.ChangeAt Go.RowKit
open M2
set_option linter.unusedVariables false
set_option linter.unusedSimpArgs false
theorem toZ_bk11 (ps : List Nat) : (toZ ps).map Int.toNat = ps := by
  rw [toZ, List.map_map]
  refine (List.map_congr_left fun x hx => ?_).trans (List.map_id ps)
  simp
theorem sq_sizA (xs : List Int) : Sq (sizA xs) := by
  have h80 : (ext ([] : List Nat)).length = 80 := ext_len (by simp)
  have h1 : ∀ v ∈ (szA (ext []) 0).toList, v.oneCell' = true := fun v hv => by
    rw [szA_list] at hv
    simp at hv
    rcases hv with ⟨m, _, rfl⟩ | rfl <;> rfl
  have h2 : ∀ v ∈ (xs.take 80).map (Value.int .i64), v.oneCell' = true := fun v hv => by
    obtain ⟨n, _, rfl⟩ := List.mem_map.1 hv
    rfl
  have h3 : (splice (szA (ext []) 0).toList 0 ((xs.take 80).map (Value.int .i64))).length = 81 := by
    rw [splice_sz (by rw [szA_list]; simp [h80]; omega), szA_list]
    simp [h80]
  unfold sizA
  refine ⟨by rw [Array.size_setIfInBounds]; exact h3, ?_⟩
  rw [Array.all_eq_true']
  intro v hv
  rcases Array.mem_or_eq_of_mem_setIfInBounds hv with h | h
  · exact one_splice h1 h2 v (by simpa using h)
  · rw [h]; rfl
def bdB (q : Nat) (nb : Bool) (xs : List Int) : Bool := (decide (Good nb xs) && !nb) && decide (val (nat xs) ≤ q * q)
theorem bdB_yes {q : Nat} {nb : Bool} {xs : List Int} (h : bdB q nb xs = true) : Good nb xs ∧ nb = false ∧ val (nat xs) ≤ q * q := by
  unfold bdB at h
  simp only [Bool.and_eq_true, decide_eq_true_eq, Bool.not_eq_true'] at h
  exact ⟨h.1.1, h.1.2, h.2⟩
theorem readB_n (N T E : Int) (a3 : Option Addr) (l3 c3 : Nat) (a4 : Option Addr) (l4 c4 : Nat) (a6 : Option Addr) (l6 c6 : Nat) (q : Nat) (nb : Bool) (xs : List Int) (a1 : Option Addr) (c1 : Nat) (hq : cnt q ≤ 7) (hl : xs.length ≤ 1048576) : ∃ SA, Sq SA ∧ ((decide (Good nb xs) && !nb) = true → SA = szV (val (nat xs))) ∧ ∀ w, Row w (.slice a6 l6 c6) (toI (dig q)) → Row w (.slice a1 xs.length c1) xs → Calls Tryz.prog 93 #[.agg #[.int .i64 N, .int .i64 T, .int .i64 E, .slice a3 l3 c3, .slice a4 l4 c4, .bool false, .slice a6 l6 c6], .agg #[.bool nb, .slice a1 xs.length c1]] w fun e w' => e = .returned (.tuple #[.agg SA, .bool (bdB q nb xs)]) ∧ Old w w' := by
  cases hG : (decide (Good nb xs) && !nb)
  · refine ⟨sizA xs, sq_sizA xs, (fun h => by cases h), fun w hr hu => ?_⟩
    refine readBound_of N T E a3 l3 c3 a4 l4 c4 a6 l6 c6 nb a1 xs.length c1 (sizA xs) (szV q) (szV (q * q)) false 0 (bdB q nb xs) w (sq_sizA xs) (sq_v (by omega)) (fun W g => (sizeOf_any nb xs _ W (hu.old g) (by omega)).mono fun e w' h => ⟨h.1, h.2.2⟩) (fun W g => sizeQ_n q a6 l6 c6 W hq (hr.old g)) (fun W g => ?_) (fun h => by cases h) (fun h => by cases h) (by unfold bdB; rw [hG]; rfl)
    rw [← hG]
    exact isFrom_of nb (decide (Good nb xs)) a1 xs.length c1 W (fun W' g' => good_impl nb xs _ W' (hu.old (Old.trans g g')) hl)
  · have hg : Good nb xs := by
      rw [Bool.and_eq_true] at hG
      exact of_decide_eq_true hG.1
    obtain ⟨e1, e2, e3⟩ := good_gw hg
    have e4 : (nat xs).length = xs.length := nat_len xs
    have hc : cnt (val (nat xs)) ≤ 40 := by rw [cnt_nrm e2.1]; exact e3
    have hc2 : cnt (q * q) ≤ 14 := Nat.le_trans (cnt_mul _ _) (by omega)
    refine ⟨szV (val (nat xs)), sq_v (by omega), (fun _ => rfl), fun w hr hu => ?_⟩
    refine readBound_of N T E a3 l3 c3 a4 l4 c4 a6 l6 c6 nb a1 xs.length c1 (szV (val (nat xs))) (szV q) (szV (q * q)) true (cmpN (val (nat xs)) (q * q)) (bdB q nb xs) w (sq_v (by omega)) (sq_v (by omega)) (fun W g => sizeOf_sz nb (nat xs) _ W (by rw [e1]; exact hu.old g) e2.1 (by omega)) (fun W g => sizeQ_n q a6 l6 c6 W hq (hr.old g)) (fun W g => ?_) (fun _ W => mul_sz q q W (by omega)) (fun _ W => cmp_sz _ _ W (by omega) (by omega)) (by unfold bdB; rw [hG]; congr 1; exact decide_eq_decide.2 cmp_le.symm)
    rw [← hG]
    exact isFrom_of nb (decide (Good nb xs)) a1 xs.length c1 W (fun W' g' => good_impl nb xs _ W' (hu.old (Old.trans g g')) hl)
def WhA (D : List Nat) (ok : Bool) (w : World) (e : Ending) (w' : World) : Prop := ∃ v', e = .returned (.tuple #[.agg #[.bool false, v'], .bool ok]) ∧ Old w w' ∧ Own w' w.heap.size v' (toI D)
theorem bk_putW {w : World} {k : Nat} {x0 x1 : Value} {t : TypeId} (h : Bk w k #[x0, x1] t) (y0 y1 : Value) : Bk ((w.setCell ⟨k, 0, none⟩ y0).setCell ⟨k, 1, none⟩ y1) k #[y0, y1] t := by
  have h0 : Bk (w.setCell ⟨k, 0, none⟩ y0) k #[y0, x1] t := (heap_setCell_same w k 0 _ _ y0 h).trans rfl
  exact (heap_setCell_same (w.setCell ⟨k, 0, none⟩ y0) k 1 _ _ y1 h0).trans rfl
end Go.Proofs.YtpcpahgflkjnaaaGreatDoor
/- Proved: the model's numbers as rows; its l9Q, l11R, l11Limit, l11Out and l11Fresh. -/
namespace Go.Proofs.YtpcpahgflkjnaaaGreatDoor
open Go.ChangeShapes Go.WideShapes Go.ChangeAt Go.RowKit
open M2
set_option linter.unusedVariables false
set_option linter.unusedSimpArgs false
def RwD (n : Nat) (W : World) (v : Value) : Prop := ∃ a c, v = .slice a (dig n).length c ∧ Row W (.slice a (dig n).length c) (toI (dig n))
theorem RwD.old {n : Nat} {W W' : World} {v : Value} (h : RwD n W v) (q : Old W W') : RwD n W' v := by
  obtain ⟨a, c, e, r⟩ := h
  exact ⟨a, c, e, r.old q⟩
theorem RwD.row {n : Nat} {W : World} {v : Value} (h : RwD n W v) : Row W v (toI (dig n)) := by
  obtain ⟨a, c, e, r⟩ := h
  rw [e]
  exact r
theorem RwD.of {n : Nat} {W : World} {v : Value} (h : Row W v (toI (dig n))) : RwD n W v := by
  obtain ⟨a, c, e⟩ := h.slice
  rw [toI_len] at e
  subst e
  exact ⟨a, c, rfl, h⟩
theorem RwD.zero (W : World) : RwD 0 W (.slice none 0 0) := ⟨none, 0, rfl, .inl ⟨none, 0, rfl, rfl⟩⟩
theorem RwD.one (w : World) (n : Nat) (h : dig n = [n]) : RwD n (w.alloc (.cells #[.int .i64 (n : Int)] 3)) (.slice (some ⟨w.heap.size, 0, none⟩) 1 1) := by
  refine ⟨some ⟨w.heap.size, 0, none⟩, 1, by rw [h]; rfl, ?_⟩
  rw [h]
  refine .inr ⟨w.heap.size, 0, 1, rfl, by simp, by simp [toI], fun j hj => ?_⟩
  have : j = 0 := by simp [toI] at hj; omega
  subst this
  exact cell_at _ _ _ _ _ rfl
def WhP (base n : Nat) (W : World) (x : Value) : Prop := ∃ a c, x = .agg #[.bool false, .slice a (dig n).length c] ∧ Own W base (.slice a (dig n).length c) (toI (dig n))
def WhT (base n : Nat) (W : World) (x : Value) : Prop := ∃ a c, x = .tuple #[.agg #[.bool false, .slice a (dig n).length c], .bool true] ∧ Own W base (.slice a (dig n).length c) (toI (dig n))
theorem WhP.old {base n : Nat} {W W' : World} {x : Value} (h : WhP base n W x) (q : Old W W') : WhP base n W' x := by
  obtain ⟨a, c, e, o⟩ := h
  exact ⟨a, c, e, o.old q⟩
theorem WhT.old {base n : Nat} {W W' : World} {x : Value} (h : WhT base n W x) (q : Old W W') : WhT base n W' x := by
  obtain ⟨a, c, e, o⟩ := h
  exact ⟨a, c, e, o.old q⟩
theorem WhT.tup {base n : Nat} {W : World} {x : Value} (h : WhT base n W x) : ∃ v1 v2, x = .tuple #[v1, v2] ∧ WhP base n W v1 ∧ v2 = .bool true := by
  obtain ⟨a, c, e, o⟩ := h
  exact ⟨_, _, e, ⟨a, c, rfl, o⟩, rfl⟩
theorem WhP.agg {base n : Nat} {W : World} {x : Value} (h : WhP base n W x) : ∃ cs, x = .agg cs ∧ cs.size = 2 ∧ cs.all (·.oneCell') = true := by
  obtain ⟨a, c, e, o⟩ := h
  exact ⟨_, e, rfl, by simp [Value.oneCell']⟩
theorem of_n (n : Nat) (w : World) (h : n ≤ 9223372036854775807) : Calls Tryz.prog 86 #[.int .i64 (n : Int)] w fun e w' => ∃ v, e = .returned v ∧ Old w w' ∧ RwD (n) w' v := (of_any n w h).mono fun e w' h => by
  obtain ⟨v, e1, g, o⟩ := h
  exact ⟨v, e1, g, RwD.of (Own.row o)⟩
theorem mul_n (a b : Nat) (v u : Value) (w : World) (h1 : RwD a w v) (h2 : RwD b w u) (ha : cnt a ≤ 1000) (hb : cnt b ≤ 1000) : Calls Tryz.prog 90 #[v, u] w fun e w' => ∃ v, e = .returned v ∧ Old w w' ∧ RwD (a * b) w' v := (mul_any (dig a) (dig b) v u w h1.row h2.row (dig_lim _) (dig_lim _) (by unfold cnt at ha; omega) (by unfold cnt at hb; omega)).mono fun e w' h => by
  obtain ⟨v, e1, g, o⟩ := h
  rw [val_dig, val_dig] at o
  exact ⟨v, e1, g, RwD.of (Own.row o)⟩
theorem add_n (a b : Nat) (v u : Value) (w : World) (h1 : RwD a w v) (h2 : RwD b w u) (ha : cnt a ≤ 1000) (hb : cnt b ≤ 1000) : Calls Tryz.prog 85 #[v, u] w fun e w' => ∃ v, e = .returned v ∧ Old w w' ∧ RwD (a + b) w' v := (add_any (dig a) (dig b) v u w h1.row h2.row (dig_lim _) (dig_lim _) (by unfold cnt at ha; omega) (by unfold cnt at hb; omega)).mono fun e w' h => by
  obtain ⟨v, e1, g, o⟩ := h
  rw [val_dig, val_dig] at o
  exact ⟨v, e1, g, RwD.of (Own.row o)⟩
theorem sub_n (a b : Nat) (v u : Value) (w : World) (h1 : RwD a w v) (h2 : RwD b w u) (ha : cnt a ≤ 1000) (hb : cnt b ≤ 1000) (hle : b ≤ a) : Calls Tryz.prog 137 #[v, u] w fun e w' => ∃ v, e = .returned v ∧ Old w w' ∧ RwD (a - b) w' v := (sub_any (dig a) (dig b) v u w h1.row h2.row (dig_nrm _) (dig_nrm _) (by unfold cnt at ha; omega) (by unfold cnt at hb; omega) (by rw [val_dig, val_dig]; exact hle)).mono fun e w' h => by
  obtain ⟨v, e1, g, o⟩ := h
  rw [val_dig, val_dig] at o
  exact ⟨v, e1, g, RwD.of (Own.row o)⟩
theorem div_n (a b : Nat) (v u : Value) (w : World) (h1 : RwD a w v) (h2 : RwD b w u) (ha : cnt a ≤ 1000) (hb : cnt b ≤ 1000) (h0 : 0 < b) : Calls Tryz.prog 136 #[v, u] w fun e w' => ∃ v1 v2, e = .returned (.tuple #[v1, v2]) ∧ Old w w' ∧ RwD (a / b) w' v1 ∧ RwD (a % b) w' v2 := (div_any (dig a) (dig b) v u w h1.row h2.row (dig_lim _) (dig_nrm _) (fun e => by have := val_dig b; rw [e] at this; simp [val] at this; omega) (by unfold cnt at ha; omega) (by unfold cnt at hb; omega)).mono fun e w' h => by
  obtain ⟨v1, v2, e1, g, o1, o2⟩ := h
  rw [val_dig, val_dig] at o1 o2
  exact ⟨v1, v2, e1, g, RwD.of (Own.row o1), RwD.of (Own.row o2)⟩
theorem cmp_n (a b : Nat) (v u : Value) (w : World) (h1 : RwD a w v) (h2 : RwD b w u) (ha : cnt a ≤ 1000) (hb : cnt b ≤ 1000) : Calls Tryz.prog 99 #[v, u] w fun e w' => e = .returned (.int .i64 (cmpN a b)) ∧ Old w w' := by
  have := cmp_any (dig a) (dig b) v u w h1.row h2.row (dig_nrm _) (dig_nrm _) (by unfold cnt at ha; omega) (by unfold cnt at hb; omega)
  rwa [val_dig, val_dig] at this
theorem word_n (a m : Nat) (v : Value) (w : World) (h1 : RwD a w v) (ha : cnt a ≤ 1000) (hm : 1 ≤ m ∧ m ≤ 268435456) : Calls Tryz.prog 146 #[v, .int .i64 (m : Int)] w fun e w' => e = .returned (.int .i64 ((a % m : Nat) : Int)) ∧ Old w w' := by
  have := word_any (dig a) m v w h1.row (dig_lim _) (by unfold cnt at ha; omega) hm.1 hm.2
  rwa [val_dig] at this
set_option maxRecDepth 100000 in
set_option maxHeartbeats 4000000 in
theorem l9Q_n (N T E : Int) (P : List Nat) (a0 : Option Addr) (l0 c0 : Nat) (w : World) (hv : Row w (.slice a0 l0 c0) (toZ P)) (hb : Bas P) : Calls Tryz.prog 135 #[.agg #[.int .i64 N, .int .i64 T, .int .i64 E, .slice a0 l0 c0]] w fun e w' => ∃ v, e = .returned v ∧ Old w w' ∧ RwD (prodN P) w' v := by
  have HK : Hid (∀ W, Old w W → Calls Tryz.prog 169 #[.slice a0 l0 c0] W fun e w' => ∃ v', e = .returned v' ∧ Old W w' ∧ Row w' v' (toI (dig (prodN P)))) := fun W g => spec_product P _ W (hv.old g) hb.len6 hb.hi
  have HA : Hid (Old w (w.alloc (.cells #[.int .i64 N, .int .i64 T, .int .i64 E, .slice a0 l0 c0] 34))) := (Old.refl w).alloc _
  have BA : Hid (Bk (w.alloc (.cells #[.int .i64 N, .int .i64 T, .int .i64 E, .slice a0 l0 c0] 34)) w.heap.size #[.int .i64 N, .int .i64 T, .int .i64 E, .slice a0 l0 c0] 34) := Bk.new' w _ _ rfl
  have x3 := BA.out.c (i := 3) rfl
  clear hv hb
  go_enter Tryz.func135, Tryz.ntmps135
  go_wp2_with fail
  refine (HK.out _ HA.out).mono ?_
  rintro e w1 ⟨v1, rfl, g1, r1⟩
  have HG : Hid (Old w w1) := Old.trans HA.out g1
  have HR : Hid (Row w1 v1 (toI (dig (prodN P)))) := r1
  clear g1 r1 x3
  go_wp2_with fail
  go_ret
  exact ⟨_, rfl, HG.out, RwD.of HR.out⟩
set_option maxRecDepth 100000 in
set_option maxHeartbeats 4000000 in
theorem l11R_n (Nn Tn En : Nat) (P : List Nat) (a0 : Option Addr) (l0 c0 : Nat) (w : World) (hv : Row w (.slice a0 l0 c0) (toZ P)) (hb : Bas P) (hT : 2 ≤ Tn ∧ Tn ≤ 65536) : Calls Tryz.prog 87 #[.agg #[.int .i64 (Nn : Int), .int .i64 (Tn : Int), .int .i64 (En : Int), .slice a0 l0 c0]] w fun e w' => e = .returned (.int .i64 ((prodN P % Tn : Nat) : Int)) ∧ Old w w' := by
  have HV : Hid (Row w (.slice a0 l0 c0) (toZ P)) := hv
  have hcq := hb.cnt
  have HA : Hid (Old w (w.alloc (.cells #[.int .i64 (Nn : Int), .int .i64 (Tn : Int), .int .i64 (En : Int), .slice a0 l0 c0] 34))) := (Old.refl w).alloc _
  have BP : Hid (Bk (w.alloc (.cells #[.int .i64 (Nn : Int), .int .i64 (Tn : Int), .int .i64 (En : Int), .slice a0 l0 c0] 34)) w.heap.size #[.int .i64 (Nn : Int), .int .i64 (Tn : Int), .int .i64 (En : Int), .slice a0 l0 c0] 34) := Bk.new' w _ _ rfl
  generalize hwA : (w.alloc (.cells #[.int .i64 (Nn : Int), .int .i64 (Tn : Int), .int .i64 (En : Int), .slice a0 l0 c0] 34)) = wA at HA BP
  go_enter Tryz.func87, Tryz.ntmps87
  go_wp2_with fail
  refine reg_Ma wA Nn Tn En a0 l0 c0 w.heap.size ((prodN P % Tn : Nat) : Int) (RwD (prodN P)) (fun W W' v h q => h.old q) BP.out (fun W g => l9Q_n Nn Tn En P a0 l0 c0 W (HV.out.old (Old.trans HA.out g)) hb) (fun W g u hu => word_n (prodN P) Tn u W hu (by omega) (by omega)) _ _ ?_ ?_ ?_
  iterate 2 (· exact rfl)
  intro us W q h5
  have HQ : Hid (Old w W) := Old.trans HA.out q
  simp only [putAll, Act.put, slotMa, List.range, List.range.loop, List.map_cons, List.map_nil, List.getD_cons_zero, List.getD_cons_succ, List.setIfInBounds_toArray, List.set_cons_succ, List.set_cons_zero]
  simp only [h5]
  clear q h5 HV hv
  go_wp2_with fail
  go_ret
  exact ⟨rfl, HQ.out⟩
set_option maxRecDepth 100000 in
set_option maxHeartbeats 4000000 in
theorem l11Limit_n (Nn Tn En : Nat) (P : List Nat) (a0 : Option Addr) (l0 c0 : Nat) (w : World) (hv : Row w (.slice a0 l0 c0) (toZ P)) (hb : Bas P) (hT : 2 ≤ Tn ∧ Tn ≤ 65536) : Calls Tryz.prog 78 #[.agg #[.int .i64 (Nn : Int), .int .i64 (Tn : Int), .int .i64 (En : Int), .slice a0 l0 c0]] w fun e w' => ∃ v, e = .returned v ∧ Old w w' ∧ RwD (limN (prodN P) Tn) w' v := by
  have HV : Hid (Row w (.slice a0 l0 c0) (toZ P)) := hv
  have hcq := hb.cnt
  have hr0 : prodN P % Tn < Tn := Nat.mod_lt _ (by omega)
  have hlb : Tn * (prodN P % Tn) ≤ 65536 * 65536 := Nat.mul_le_mul hT.2 (by omega)
  have hcl : cnt (Tn * (prodN P % Tn)) ≤ 3 := cnt_w (by omega)
  have CR := fun W (g : Old w W) => l11R_n Nn Tn En P a0 l0 c0 W (HV.out.old g) hb hT
  have CQ := fun W (g : Old w W) => l9Q_n Nn Tn En P a0 l0 c0 W (HV.out.old g) hb
  have HL : Hid (limN (prodN P) Tn = if prodN P < Tn * (prodN P % Tn) then 0 else (prodN P - Tn * (prodN P % Tn)) / 2) := rfl
  have hcT : cnt Tn ≤ 3 := cnt_w (by omega)
  have hcr : cnt (prodN P % Tn) ≤ 3 := cnt_w (by omega)
  have KT : ∀ W, Calls Tryz.prog 86 #[.int .i64 (Tn : Int)] W fun e w' => ∃ v, e = .returned v ∧ Old W w' ∧ RwD Tn w' v := fun W => of_n Tn W (by omega)
  have KR : ∀ W, Calls Tryz.prog 86 #[.int .i64 ((prodN P % Tn : Nat) : Int)] W fun e w' => ∃ v, e = .returned v ∧ Old W w' ∧ RwD (prodN P % Tn) w' v := fun W => of_n _ W (by omega)
  generalize limN (prodN P) Tn = LM at *
  generalize prodN P = q at *
  generalize q % Tn = r at *
  have HA : Hid (Old w (w.alloc (.cells #[.int .i64 (Nn : Int), .int .i64 (Tn : Int), .int .i64 (En : Int), .slice a0 l0 c0] 34))) := (Old.refl w).alloc _
  have BP : Hid (Bk (w.alloc (.cells #[.int .i64 (Nn : Int), .int .i64 (Tn : Int), .int .i64 (En : Int), .slice a0 l0 c0] 34)) w.heap.size #[.int .i64 (Nn : Int), .int .i64 (Tn : Int), .int .i64 (En : Int), .slice a0 l0 c0] 34) := Bk.new' w _ _ rfl
  generalize hwA : (w.alloc (.cells #[.int .i64 (Nn : Int), .int .i64 (Tn : Int), .int .i64 (En : Int), .slice a0 l0 c0] 34)) = wA at HA BP
  have p0 := BP.out.c (i := 0) rfl
  have p1 := BP.out.c (i := 1) rfl
  have p2 := BP.out.c (i := 2) rfl
  have p3 := BP.out.c (i := 3) rfl
  clear hv
  go_enter Tryz.func78, Tryz.ntmps78
  go_wp2_with fail
  refine (CQ _ HA.out).mono ?_
  rintro e w1 ⟨v1, rfl, g1, qa, qc, rfl, rq⟩
  have HO1 : Hid (Old w w1) := Old.trans HA.out g1
  have BP1 : Hid (Bk w1 w.heap.size #[.int .i64 (Nn : Int), .int .i64 (Tn : Int), .int .i64 (En : Int), .slice a0 l0 c0] 34) := BP.out.old g1
  have HRQ : Hid (RwD q w1 (.slice qa (dig q).length qc)) := ⟨qa, qc, rfl, rq⟩
  clear g1 rq p0 p1 p2 p3 BP HA hwA CQ
  generalize (dig q).length = lq at *
  go_wp2_with fail
  refine reg_Mb w1 Nn Tn En a0 l0 c0 w.heap.size (r : Int) (RwD Tn) (RwD r) (RwD (Tn * r)) (fun W W' v h q => h.old q) (fun W W' v h q => h.old q) (fun W W' v h q => h.old q) BP1.out (fun W g => KT W) (fun W g => CR W (Old.trans HO1.out g)) (fun W g => KR W) (fun W g u1 u2 h1 h2 => mul_n Tn r u1 u2 W h1 h2 (by omega) (by omega)) _ _ ?_ ?_ ?_
  iterate 2 (· exact rfl)
  intro us W2 q2 h7
  obtain ⟨la, lc, e7, r7⟩ := h7
  have HO2 : Hid (Old w W2) := Old.trans HO1.out q2
  have HRQ2 : Hid (RwD q W2 (.slice qa lq qc)) := HRQ.out.old q2
  have HRL2 : Hid (RwD (Tn * r) W2 (.slice la (dig (Tn * r)).length lc)) := ⟨la, lc, rfl, r7⟩
  simp only [putAll, Act.put, slotMb, List.range, List.range.loop, List.map_cons, List.map_nil, List.getD_cons_zero, List.getD_cons_succ, List.setIfInBounds_toArray, List.set_cons_succ, List.set_cons_zero]
  simp only [e7]
  clear q2 e7 r7 BP1 HRQ HO1 KT KR CR
  generalize hTr : Tn * r = tr at *
  generalize (dig tr).length = ll at *
  clear hTr
  have KC : ∀ W, Old W2 W → Calls Tryz.prog 99 #[.slice qa lq qc, .slice la ll lc] W fun e w' => e = .returned (.int .i64 (cmpN q tr)) ∧ Old W w' := fun W g => cmp_n q tr _ _ W (HRQ2.out.old g) (HRL2.out.old g) (by omega) (by omega)
  have HCM : Hid (cmpN q tr < 0 ↔ q < tr) := by
    show cmpN q tr < 0 ↔ q < tr
    unfold cmpN
    split
    · omega
    · split <;> omega
  generalize cmpN q tr = cm at *
  by_cases hlt : q < tr
  · have d1 : decide (cm < 0) = true := decide_eq_true (HCM.out.2 hlt)
    have HLM : Hid (LM = 0) := HL.out.trans (if_pos hlt)
    clear HL HCM hlt
    go_wp2_with fail
    refine (KC _ (Old.refl _)).mono ?_
    rintro e w3 ⟨rfl, g3⟩
    have HO3 : Hid (Old w w3) := Old.trans HO2.out g3
    clear g3
    go_wp2_with fail
    go_ret
    exact ⟨_, rfl, HO3.out, by rw [HLM.out]; exact RwD.zero _⟩
  · have d1 : decide (cm < 0) = false := decide_eq_false (fun h => hlt (HCM.out.1 h))
    have HLM : Hid (LM = (q - tr) / 2) := HL.out.trans (if_neg hlt)
    have KS : ∀ W, Old W2 W → Calls Tryz.prog 137 #[.slice qa lq qc, .slice la ll lc] W fun e w' => ∃ v, e = .returned v ∧ Old W w' ∧ RwD (q - tr) w' v := fun W g => sub_n q tr _ _ W (HRQ2.out.old g) (HRL2.out.old g) (by omega) (by omega) (by omega)
    have hcs : cnt (q - tr) ≤ 7 := Nat.le_trans (cnt_mono (Nat.sub_le _ _)) hcq
    have KD : ∀ W v, RwD (q - tr) W v → Calls Tryz.prog 136 #[v, .slice (some ⟨W.heap.size, 0, none⟩) 1 1] (W.alloc (.cells #[.int .i64 2] 3)) fun e w' => ∃ v1 v2, e = .returned (.tuple #[v1, v2]) ∧ Old (W.alloc (.cells #[.int .i64 2] 3)) w' ∧ RwD ((q - tr) / 2) w' v1 ∧ RwD ((q - tr) % 2) w' v2 := fun W v h => div_n (q - tr) 2 _ _ _ (h.old ((Old.refl W).alloc _)) (RwD.one W 2 (by decide)) (by omega) (by decide) (by omega)
    clear HL HCM hlt
    go_wp2_with fail
    refine (KC _ (Old.refl _)).mono ?_
    rintro e w3 ⟨rfl, g3⟩
    have HO3 : Hid (Old w w3) := Old.trans HO2.out g3
    have HP3 : Hid (Old W2 w3) := g3
    clear g3 KC
    go_wp2_with fail
    refine (KS _ HP3.out).mono ?_
    rintro e w4 ⟨v4, rfl, g4, r4⟩
    have HO4 : Hid (Old w w4) := Old.trans HO3.out g4
    have HR4 : Hid (RwD (q - tr) w4 v4) := r4
    clear g4 r4 KS
    go_wp2_with fail
    refine (KD w4 v4 HR4.out).mono ?_
    rintro e w5 ⟨v5, v6, rfl, g5, r5, _⟩
    have HO5 : Hid (Old w w5) := Old.trans (HO4.out.alloc _) g5
    have HR5 : Hid (RwD ((q - tr) / 2) w5 v5) := r5
    clear g5 r5 KD
    go_wp2_with fail
    go_ret
    exact ⟨_, rfl, HO5.out, by rw [HLM.out]; exact HR5.out⟩
set_option maxRecDepth 100000 in
set_option maxHeartbeats 4000000 in
theorem l11Out_n (Nn Tn En : Nat) (P : List Nat) (a0 : Option Addr) (l0 c0 : Nat) (n : Nat) (v : Value) (w : World) (hv : Row w (.slice a0 l0 c0) (toZ P)) (hb : Bas P) (hn : RwD n w v) (hcn : cnt n ≤ 1000) : Calls Tryz.prog 81 #[.agg #[.int .i64 (Nn : Int), .int .i64 (Tn : Int), .int .i64 (En : Int), .slice a0 l0 c0], v] w fun e w' => ∃ x, e = .returned x ∧ Old w w' ∧ WhT w.heap.size (cutN (prodN P) n) w' x := by
  have HV : Hid (Row w (.slice a0 l0 c0) (toZ P)) := hv
  have hcq := hb.cnt
  have CQ := fun W (g : Old w W) => l9Q_n Nn Tn En P a0 l0 c0 W (HV.out.old g) hb
  have hcc : cnt (cutN (prodN P) n) ≤ 7 := Nat.le_trans (cnt_mono cutN_le) hcq
  have HCU : Hid (cutN (prodN P) n = if prodN P < n then prodN P else n) := rfl
  have KO : ∀ W v, RwD (cutN (prodN P) n) W v → Calls Tryz.prog 61 #[.agg #[.bool false, v]] W fun e w' => ∃ x, e = .returned x ∧ Old W w' ∧ WhT W.heap.size (cutN (prodN P) n) w' x := fun W v h => (out_any false (dig (cutN (prodN P) n)) v W h.row (by unfold cnt at hcc; omega)).mono fun e w' h => by
    obtain ⟨v', e1, g, o⟩ := h
    obtain ⟨x, y, e2⟩ := (Own.row o).slice
    rw [toI_len] at e2
    subst e2
    exact ⟨_, e1, g, x, y, rfl, o⟩
  obtain ⟨na, nc, rfl, rn⟩ := hn
  have HRN : Hid (RwD n w (.slice na (dig n).length nc)) := ⟨na, nc, rfl, rn⟩
  clear rn hv
  generalize cutN (prodN P) n = CU at *
  generalize prodN P = q at *
  have HA : Hid (Old w ((w.alloc (.cells #[.int .i64 (Nn : Int), .int .i64 (Tn : Int), .int .i64 (En : Int), .slice a0 l0 c0] 34)).alloc (.cells #[.bool false, .slice none 0 0] 31))) := ((Old.refl w).alloc _).alloc _
  have BP : Hid (Bk ((w.alloc (.cells #[.int .i64 (Nn : Int), .int .i64 (Tn : Int), .int .i64 (En : Int), .slice a0 l0 c0] 34)).alloc (.cells #[.bool false, .slice none 0 0] 31)) w.heap.size #[.int .i64 (Nn : Int), .int .i64 (Tn : Int), .int .i64 (En : Int), .slice a0 l0 c0] 34) := (Bk.new' w _ _ rfl).alloc _
  have BR : Hid (Bk ((w.alloc (.cells #[.int .i64 (Nn : Int), .int .i64 (Tn : Int), .int .i64 (En : Int), .slice a0 l0 c0] 34)).alloc (.cells #[.bool false, .slice none 0 0] 31)) (w.heap.size + 1) #[.bool false, .slice none 0 0] 31) := Bk.new' _ _ _ (by simp)
  generalize hwA : ((w.alloc (.cells #[.int .i64 (Nn : Int), .int .i64 (Tn : Int), .int .i64 (En : Int), .slice a0 l0 c0] 34)).alloc (.cells #[.bool false, .slice none 0 0] 31)) = wA at HA BP BR
  have p0 := BP.out.c (i := 0) rfl
  have p1 := BP.out.c (i := 1) rfl
  have p2 := BP.out.c (i := 2) rfl
  have p3 := BP.out.c (i := 3) rfl
  generalize (dig n).length = ln at *
  go_enter Tryz.func81, Tryz.ntmps81
  go_wp2_with fail
  refine (CQ _ HA.out).mono ?_
  rintro e w1 ⟨v1, rfl, g1, qa, qc, rfl, rq⟩
  have HO1 : Hid (Old w w1) := Old.trans HA.out g1
  have BR1 : Hid (Bk w1 (w.heap.size + 1) #[.bool false, .slice none 0 0] 31) := BR.out.old g1
  have HRQ : Hid (RwD q w1 (.slice qa (dig q).length qc)) := ⟨qa, qc, rfl, rq⟩
  clear g1 rq p0 p1 p2 p3 BP HA hwA CQ BR
  generalize (dig q).length = lq at *
  have KC : Calls Tryz.prog 99 #[.slice na ln nc, .slice qa lq qc] w1 fun e w' => e = .returned (.int .i64 (cmpN n q)) ∧ Old w1 w' := cmp_n n q _ _ w1 (HRN.out.old HO1.out) HRQ.out (by omega) (by omega)
  have HCM : Hid (0 < cmpN n q ↔ q < n) := cmp_pos
  generalize cmpN n q = cm at *
  have fin : ∀ (xa : Option Addr) (xl xc : Nat) (w3 : World) (Q : Prop), True := fun _ _ _ _ _ => trivial
  by_cases hlt : q < n
  · have d1 : decide (cm > 0) = true := decide_eq_true (HCM.out.2 hlt)
    have d2 : decide (0 < cm) = true := decide_eq_true (HCM.out.2 hlt)
    have HU : Hid (CU = q) := HCU.out.trans (if_pos hlt)
    clear HCU HCM hlt fin
    go_wp2_with fail
    refine KC.mono ?_
    rintro e w3 ⟨rfl, g3⟩
    have HO3 : Hid (Old w w3) := Old.trans HO1.out g3
    have BR3 : Hid (Bk w3 (w.heap.size + 1) #[.bool false, .slice none 0 0] 31) := BR1.out.old g3
    have HX3 : Hid (RwD CU w3 (.slice qa lq qc)) := by rw [HU.out]; exact (HRQ.out.old g3)
    clear g3 KC
    go_wp2_with fail
    refine (KO _ _ HX3.out).mono ?_
    rintro e w4 ⟨x4, rfl, g4, oa, oc, rfl, o4⟩
    have R5 : Hid (Bk w4 (w.heap.size + 1) #[.bool false, .slice none 0 0] 31) := BR3.out.old g4
    have HO4 : Hid (Old w w4) := Old.trans HO3.out g4
    have hz4 : w.heap.size + 1 < w3.heap.size := BR3.out.lt
    have y0 := R5.out.c (i := 0) rfl
    have y1 := R5.out.c (i := 1) rfl
    have f0 := frozen_of_row _ _ 0 _ _ R5.out
    have f1 := frozen_of_row _ _ 1 _ _ R5.out
    have O4 : Hid (Own w4 w3.heap.size (.slice oa (dig CU).length oc) (toI (dig CU))) := o4
    clear g4 o4 KO
    go_wp2_with fail
    have HF := bk_putW R5.out (.bool false) (.slice oa (dig CU).length oc)
    have q0 := HF.c (i := 0) rfl
    have q1 := HF.c (i := 1) rfl
    refine bodyPost_ret (v := .tuple #[.agg #[.bool false, .slice oa (dig CU).length oc], .bool true]) (by simp [results, Tryz.results81, go_sem, q0, q1]) rfl ?_
    refine ⟨_, rfl, (HO4.out.own (p := ⟨w.heap.size + 1, 0, none⟩) (by simp) _).own (p := ⟨w.heap.size + 1, 1, none⟩) (by simp) _, oa, oc, rfl, ?_⟩
    refine own_farB (Own.low O4.out (by omega)) (fun b hb => ?_)
    have hlt := (O4.out.lt b hb).1
    exact (heap_setCell_other _ ⟨w.heap.size + 1, 1, none⟩ b _ (by show b ≠ w.heap.size + 1; omega)).trans (heap_setCell_other _ ⟨w.heap.size + 1, 0, none⟩ b _ (by show b ≠ w.heap.size + 1; omega))
  · have d1 : decide (cm > 0) = false := decide_eq_false (fun h => hlt (HCM.out.1 h))
    have d2 : decide (0 < cm) = false := decide_eq_false (fun h => hlt (HCM.out.1 h))
    have HU : Hid (CU = n) := HCU.out.trans (if_neg hlt)
    clear HCU HCM hlt fin
    go_wp2_with fail
    refine KC.mono ?_
    rintro e w3 ⟨rfl, g3⟩
    have HO3 : Hid (Old w w3) := Old.trans HO1.out g3
    have BR3 : Hid (Bk w3 (w.heap.size + 1) #[.bool false, .slice none 0 0] 31) := BR1.out.old g3
    have HX3 : Hid (RwD CU w3 (.slice na ln nc)) := by rw [HU.out]; exact (HRN.out.old (Old.trans HO1.out g3))
    clear g3 KC
    go_wp2_with fail
    refine (KO _ _ HX3.out).mono ?_
    rintro e w4 ⟨x4, rfl, g4, oa, oc, rfl, o4⟩
    have R5 : Hid (Bk w4 (w.heap.size + 1) #[.bool false, .slice none 0 0] 31) := BR3.out.old g4
    have HO4 : Hid (Old w w4) := Old.trans HO3.out g4
    have hz4 : w.heap.size + 1 < w3.heap.size := BR3.out.lt
    have y0 := R5.out.c (i := 0) rfl
    have y1 := R5.out.c (i := 1) rfl
    have f0 := frozen_of_row _ _ 0 _ _ R5.out
    have f1 := frozen_of_row _ _ 1 _ _ R5.out
    have O4 : Hid (Own w4 w3.heap.size (.slice oa (dig CU).length oc) (toI (dig CU))) := o4
    clear g4 o4 KO
    go_wp2_with fail
    have HF := bk_putW R5.out (.bool false) (.slice oa (dig CU).length oc)
    have q0 := HF.c (i := 0) rfl
    have q1 := HF.c (i := 1) rfl
    refine bodyPost_ret (v := .tuple #[.agg #[.bool false, .slice oa (dig CU).length oc], .bool true]) (by simp [results, Tryz.results81, go_sem, q0, q1]) rfl ?_
    refine ⟨_, rfl, (HO4.out.own (p := ⟨w.heap.size + 1, 0, none⟩) (by simp) _).own (p := ⟨w.heap.size + 1, 1, none⟩) (by simp) _, oa, oc, rfl, ?_⟩
    refine own_farB (Own.low O4.out (by omega)) (fun b hb => ?_)
    have hlt := (O4.out.lt b hb).1
    exact (heap_setCell_other _ ⟨w.heap.size + 1, 1, none⟩ b _ (by show b ≠ w.heap.size + 1; omega)).trans (heap_setCell_other _ ⟨w.heap.size + 1, 0, none⟩ b _ (by show b ≠ w.heap.size + 1; omega))
end Go.Proofs.YtpcpahgflkjnaaaGreatDoor
/- Proved: the model's l11Mul, l11Switch and l11Bound. -/
namespace Go.Proofs.YtpcpahgflkjnaaaGreatDoor
open Go.ChangeShapes Go.WideShapes Go.ChangeAt Go.RowKit
open M2
set_option linter.unusedVariables false
set_option linter.unusedSimpArgs false
set_option maxRecDepth 100000 in
set_option maxHeartbeats 4000000 in
theorem l11Bound_n (N T E : Int) (xs : List Int) (a0 : Option Addr) (c0 : Nat) (nb : Bool) (ys : List Int) (a1 : Option Addr) (c1 : Nat) (w : World) (hv : Row w (.slice a0 xs.length c0) xs) (hf : Fit (.slice a0 xs.length c0)) (hl : xs.length ≤ 9223372036854775807) (hx : ∀ x ∈ xs, -9223372036854775808 ≤ x ∧ x ≤ 9223372036854775807) (hu : Row w (.slice a1 ys.length c1) ys) (hly : ys.length ≤ 1048576) : Calls Tryz.prog 84 #[.agg #[.int .i64 N, .int .i64 T, .int .i64 E, .slice a0 xs.length c0], .agg #[.bool nb, .slice a1 ys.length c1]] w fun e w' => e = .returned (.bool (prB N T E xs && bdB (prodN (xs.map Int.toNat)) nb ys)) ∧ Old w w' := by
  have KG := fun W (g : Old w W) => spec_goodParams N T E xs _ W (hv.old g) hf hl hx
  have KW := fun W (g : Old w W) => good_any nb ys _ W (hu.old g) hly
  have HV : Hid (Row w (.slice a0 xs.length c0) xs) := hv
  have HU : Hid (Row w (.slice a1 ys.length c1) ys) := hu
  have HA : Hid (Old w ((w.alloc (.cells #[.int .i64 N, .int .i64 T, .int .i64 E, .slice a0 xs.length c0] 34)).alloc (.cells #[.bool nb, .slice a1 ys.length c1] 31))) := ((Old.refl w).alloc _).alloc _
  have BP : Hid (Bk ((w.alloc (.cells #[.int .i64 N, .int .i64 T, .int .i64 E, .slice a0 xs.length c0] 34)).alloc (.cells #[.bool nb, .slice a1 ys.length c1] 31)) w.heap.size #[.int .i64 N, .int .i64 T, .int .i64 E, .slice a0 xs.length c0] 34) := (Bk.new' w _ _ rfl).alloc _
  have BW : Hid (Bk ((w.alloc (.cells #[.int .i64 N, .int .i64 T, .int .i64 E, .slice a0 xs.length c0] 34)).alloc (.cells #[.bool nb, .slice a1 ys.length c1] 31)) (w.heap.size + 1) #[.bool nb, .slice a1 ys.length c1] 31) := Bk.new' _ _ _ (by simp)
  generalize hwA : ((w.alloc (.cells #[.int .i64 N, .int .i64 T, .int .i64 E, .slice a0 xs.length c0] 34)).alloc (.cells #[.bool nb, .slice a1 ys.length c1] 31)) = wA at HA BP BW
  have p0 := BP.out.c (i := 0) rfl
  have p1 := BP.out.c (i := 1) rfl
  have p2 := BP.out.c (i := 2) rfl
  have p3 := BP.out.c (i := 3) rfl
  have u0 := BW.out.c (i := 0) rfl
  have u1 := BW.out.c (i := 1) rfl
  clear hv hu hf hx
  have hbd : bdB (prodN (xs.map Int.toNat)) nb ys = ((decide (Good nb ys) && !nb) && decide (val (nat ys) ≤ prodN (xs.map Int.toNat) * prodN (xs.map Int.toNat))) := rfl
  have HBD : Hid (bdB (prodN (xs.map Int.toNat)) nb ys = ((decide (Good nb ys) && !nb) && decide (val (nat ys) ≤ prodN (xs.map Int.toNat) * prodN (xs.map Int.toNat)))) := hbd
  clear hbd
  generalize bdB (prodN (xs.map Int.toNat)) nb ys = BB at *
  cases hp : prB N T E xs
  · rw [hp] at KG
    clear hp KW
    go_enter Tryz.func84, Tryz.ntmps84
    go_wp2_with fail
    refine (KG _ HA.out).mono ?_
    rintro e w1 ⟨rfl, g1⟩
    have HO1 : Hid (Old w w1) := Old.trans HA.out g1
    clear g1 p0 p1 p2 p3 u0 u1
    go_wp2_with fail
    go_ret
    exact ⟨rfl, HO1.out⟩
  · rw [hp] at KG
    have HP : Hid (prB N T E xs = true) := hp
    clear hp
    cases hg : decide (Good nb ys)
    · rw [hg] at KW HBD
      clear hg
      go_enter Tryz.func84, Tryz.ntmps84
      go_wp2_with fail
      refine (KG _ HA.out).mono ?_
      rintro e w1 ⟨rfl, g1⟩
      have HO1 : Hid (Old w w1) := Old.trans HA.out g1
      have BW1 : Hid (Bk w1 (w.heap.size + 1) #[.bool nb, .slice a1 ys.length c1] 31) := BW.out.old g1
      clear g1 p0 p1 p2 p3 u0 u1 KG
      have u0 := BW1.out.c (i := 0) rfl
      have u1 := BW1.out.c (i := 1) rfl
      go_wp2_with fail
      refine (KW _ HO1.out).mono ?_
      rintro e w2 ⟨rfl, g2⟩
      have HO2 : Hid (Old w w2) := Old.trans HO1.out g2
      clear g2 u0 u1
      go_wp2_with fail
      go_ret
      exact ⟨by rw [HBD.out]; rfl, HO2.out⟩
    · rw [hg] at KW HBD
      have HG : Hid (decide (Good nb ys) = true) := hg
      clear hg
      cases nb
      · have hgd : Good false ys := of_decide_eq_true HG.out
        obtain ⟨e1, e2, e3⟩ := good_gw hgd
        obtain ⟨P, hPz, hbas⟩ := basB_yes (sp_ring (show spB N xs = true by have := HP.out; unfold prB at this; rw [Bool.and_eq_true] at this; exact this.1)).2.1
        have hPn : xs.map Int.toNat = P := by rw [hPz]; exact toZ_bk11 P
        have hcq := hbas.cnt
        have hcy : cnt (val (nat ys)) ≤ 40 := by rw [cnt_nrm e2.1]; exact e3
        have CQ : ∀ W, Old w W → Calls Tryz.prog 135 #[.agg #[.int .i64 N, .int .i64 T, .int .i64 E, .slice a0 xs.length c0]] W fun e w' => ∃ v, e = .returned v ∧ Old W w' ∧ RwD (prodN P) w' v := fun W g => l9Q_n N T E P a0 xs.length c0 W (by rw [← hPz]; exact HV.out.old g) hbas
        have HRY : Hid (RwD (val (nat ys)) w (.slice a1 ys.length c1)) := RwD.of (by rw [dig_val e2.1, e1]; exact HU.out)
        rw [hPn] at HBD
        clear hgd e1 e2 e3 hPz hbas hPn HG
        generalize val (nat ys) = ny at *
        generalize prodN P = q at *
        go_enter Tryz.func84, Tryz.ntmps84
        go_wp2_with fail
        refine (KG _ HA.out).mono ?_
        rintro e w1 ⟨rfl, g1⟩
        have HO1 : Hid (Old w w1) := Old.trans HA.out g1
        have BW1 : Hid (Bk w1 (w.heap.size + 1) #[.bool false, .slice a1 ys.length c1] 31) := BW.out.old g1
        have BP1 : Hid (Bk w1 w.heap.size #[.int .i64 N, .int .i64 T, .int .i64 E, .slice a0 xs.length c0] 34) := BP.out.old g1
        clear g1 p0 p1 p2 p3 u0 u1 KG BW BP HA hwA
        have u0 := BW1.out.c (i := 0) rfl
        have u1 := BW1.out.c (i := 1) rfl
        go_wp2_with fail
        refine (KW _ HO1.out).mono ?_
        rintro e w2 ⟨rfl, g2⟩
        have HO2 : Hid (Old w w2) := Old.trans HO1.out g2
        have BW2 : Hid (Bk w2 (w.heap.size + 1) #[.bool false, .slice a1 ys.length c1] 31) := BW1.out.old g2
        have BP2 : Hid (Bk w2 w.heap.size #[.int .i64 N, .int .i64 T, .int .i64 E, .slice a0 xs.length c0] 34) := BP1.out.old g2
        clear g2 u0 u1 BW1 BP1 HO1 KW
        have u0 := BW2.out.c (i := 0) rfl
        have u1 := BW2.out.c (i := 1) rfl
        have p0 := BP2.out.c (i := 0) rfl
        have p1 := BP2.out.c (i := 1) rfl
        have p2 := BP2.out.c (i := 2) rfl
        have p3 := BP2.out.c (i := 3) rfl
        go_wp2_with fail
        refine (CQ _ HO2.out).mono ?_
        rintro e w3 ⟨v3, rfl, g3, qa, qc, rfl, rq⟩
        have HO3 : Hid (Old w w3) := Old.trans HO2.out g3
        have BW3 : Hid (Bk w3 (w.heap.size + 1) #[.bool false, .slice a1 ys.length c1] 31) := BW2.out.old g3
        have HRQ : Hid (RwD q w3 (.slice qa (dig q).length qc)) := ⟨qa, qc, rfl, rq⟩
        clear g3 rq u0 u1 p0 p1 p2 p3 BW2 BP2 HO2 CQ
        generalize (dig q).length = lq at *
        go_wp2_with fail
        refine reg_Mc w3 qa lq qc (w.heap.size + 1) false a1 ys.length c1 (cmpN ny (q * q)) (RwD (q * q)) (fun W W' v h q => h.old q) BW3.out (fun W g => mul_n q q _ _ W (HRQ.out.old g) (HRQ.out.old g) (by omega) (by omega)) (fun W g u1 h1 => cmp_n ny (q * q) _ _ W (HRY.out.old (Old.trans HO3.out g)) h1 (by omega) (Nat.le_trans (cnt_mul _ _) (by omega))) _ _ ?_ ?_ ?_ ?_
        iterate 3 (· exact rfl)
        intro us W4 q4 h7
        have HO4 : Hid (Old w W4) := Old.trans HO3.out q4
        simp only [putAll, Act.put, slotMc, List.range, List.range.loop, List.map_cons, List.map_nil, List.getD_cons_zero, List.getD_cons_succ, List.setIfInBounds_toArray, List.set_cons_succ, List.set_cons_zero]
        simp only [h7]
        clear q4 h7
        go_wp2_with fail
        go_ret
        refine ⟨?_, HO4.out⟩
        rw [HBD.out]
        show Ending.returned (.bool (decide (cmpN ny (q * q) ≤ 0))) = _
        rw [decide_eq_decide.2 cmp_le]
        rfl
      · go_enter Tryz.func84, Tryz.ntmps84
        go_wp2_with fail
        refine (KG _ HA.out).mono ?_
        rintro e w1 ⟨rfl, g1⟩
        have HO1 : Hid (Old w w1) := Old.trans HA.out g1
        have BW1 : Hid (Bk w1 (w.heap.size + 1) #[.bool true, .slice a1 ys.length c1] 31) := BW.out.old g1
        clear g1 p0 p1 p2 p3 u0 u1 KG BW BP HA hwA
        have u0 := BW1.out.c (i := 0) rfl
        have u1 := BW1.out.c (i := 1) rfl
        go_wp2_with fail
        refine (KW _ HO1.out).mono ?_
        rintro e w2 ⟨rfl, g2⟩
        have HO2 : Hid (Old w w2) := Old.trans HO1.out g2
        have BW2 : Hid (Bk w2 (w.heap.size + 1) #[.bool true, .slice a1 ys.length c1] 31) := BW1.out.old g2
        clear g2 u0 u1 BW1
        have u0 := BW2.out.c (i := 0) rfl
        have u1 := BW2.out.c (i := 1) rfl
        go_wp2_with fail
        go_ret
        exact ⟨by rw [HBD.out]; rfl, HO2.out⟩
end Go.Proofs.YtpcpahgflkjnaaaGreatDoor
/- Proved: the model's NoiseLimit, FreshBound, AddPlainBound, MulPlainBound, SwitchBound and MulBound. -/
namespace Go.Proofs.YtpcpahgflkjnaaaGreatDoor
open Go.ChangeShapes Go.WideShapes Go.ChangeAt Go.RowKit
open M2
set_option linter.unusedVariables false
set_option linter.unusedSimpArgs false
theorem WhT.low {base base' n : Nat} {W : World} {x : Value} (h : WhT base n W x) (hb : base' ≤ base) : WhT base' n W x := by
  obtain ⟨a, c, e, o⟩ := h
  exact ⟨a, c, e, Own.low o hb⟩
end Go.Proofs.YtpcpahgflkjnaaaGreatDoor
/- Proved: what good params are in numbers; a whole number as a law's result. -/
namespace Go.Proofs.YtpcpahgflkjnaaaGreatDoor
open Go.ChangeShapes Go.WideShapes Go.ChangeAt Go.RowKit
open M2
set_option linter.unusedVariables false
set_option linter.unusedSimpArgs false
theorem prB_nat {N T E : Int} {xs : List Int} (h : prB N T E xs = true) : ∃ (Nn Tn En : Nat) (P : List Nat), N = Nn ∧ T = Tn ∧ E = En ∧ xs = toZ P ∧ Bas P ∧ (2 ≤ Nn ∧ Nn ≤ 16) ∧ (2 ≤ Tn ∧ Tn ≤ 65536) ∧ (1 ≤ En ∧ En ≤ 16) ∧ xs.map Int.toNat = P ∧ 0 < prodN P ∧ (1 ≤ xs.length ∧ xs.length ≤ 6) ∧ ∀ k, k < xs.length → 2 ≤ xs.getD k 0 ∧ xs.getD k 0 ≤ 268435456 := by
  have h' := h
  unfold prB inQ at h'
  simp only [Bool.and_eq_true, decide_eq_true_eq] at h'
  obtain ⟨hs, h4, ⟨t1, t2⟩, ⟨e1, e2⟩, _⟩ := h'
  obtain ⟨hz, hbb, _⟩ := sp_ring hs
  obtain ⟨P, hP, hb⟩ := basB_yes hbb
  refine ⟨N.toNat, T.toNat, E.toNat, P, by omega, by omega, by omega, hP, hb, by omega, by omega, by omega, by rw [hP]; exact toZ_bk11 P, Nat.pos_of_ne_zero hb.pos, (bas_at hbb).1, fun k hk => pm_bd ((bas_at hbb).2 k hk)⟩
def XWm (n : Bool) (len : Nat) (W : World) (lo hi : Nat) (g : Array Value) : Prop := ∃ a c, g = #[.bool n, .slice a len c] ∧ OwI (marks 1 len) W lo hi (.slice a len c)
theorem far_XWm (n : Bool) (len : Nat) : Far (XWm n len) := fun W W' lo hi v h hf hs => by
  obtain ⟨a, c, e, o⟩ := h
  exact ⟨a, c, e, far_OwI _ W W' lo hi _ o hf hs⟩
theorem shape_XWm {n : Bool} {len : Nat} (W : World) (lo hi : Nat) (g : Array Value) (h : XWm n len W lo hi g) : ∃ a c, g = #[.bool n, .slice a len c] := by
  obtain ⟨a, c, e, o⟩ := h
  exact ⟨a, c, e⟩
theorem kw_mark2 (n : Bool) (xs : List Int) (W : World) (lo hi : Nat) (g : Array Value) (h : XW n xs W lo hi g) (hl : xs.length ≤ 1048576) :
    Calls Tryz.prog 27 #[.agg g, .int .i64 1] W fun e w' => e = .returned (.int .i64 (1 + xs.length)) ∧ Chg W w' lo hi ∧ XWm n xs.length w' lo hi g := by
  obtain ⟨a, c, rfl, o⟩ := h
  refine (markWhole_any n xs _ 1 lo W o.1 (by omega) (by omega) (by omega)).mono ?_
  rintro e w' ⟨rfl, gr, ow⟩
  obtain ⟨hc, ho⟩ := o.mark gr ow
  exact ⟨rfl, hc, a, c, rfl, ho⟩
theorem kw_held (n : Bool) (len : Nat) (W : World) (lo hi : Nat) (g : Array Value) (h : XWm n len W lo hi g) (hl : len ≤ 1048576) :
    Calls Tryz.prog 28 #[.agg g, .int .i64 1] W fun e w' => e = .returned (.int .i64 (1 + len)) ∧ Old W w' := by
  obtain ⟨a, c, rfl, o⟩ := h
  exact heldWhole_yes n len _ 1 W o.row (by omega) (by omega) (by omega)
theorem WhA.res {D : List Nat} {ok : Bool} {W : World} {e : Ending} {w' : World} (h : WhA D ok W e w') : ∃ r0, e = .returned (.tuple #[.agg r0, .bool ok]) ∧ Old W w' ∧ XW false (toI D) w' W.heap.size w'.heap.size r0 := by
  obtain ⟨v', rfl, g, o⟩ := h
  obtain ⟨x, y, rfl⟩ := (Own.row o).slice
  exact ⟨_, rfl, g, x, y, rfl, OwI.of o⟩
theorem rwd_good {ys : List Int} {w : World} {a : Option Addr} {c : Nat} (hg : Good false ys) (hu : Row w (.slice a ys.length c) ys) : RwD (val (nat ys)) w (.slice a ys.length c) ∧ cnt (val (nat ys)) ≤ 40 := by
  obtain ⟨e1, e2, e3⟩ := good_gw hg
  refine ⟨RwD.of (by rw [dig_val e2.1, e1]; exact hu), ?_⟩
  rw [cnt_nrm e2.1]
  exact e3
end Go.Proofs.YtpcpahgflkjnaaaGreatDoor
