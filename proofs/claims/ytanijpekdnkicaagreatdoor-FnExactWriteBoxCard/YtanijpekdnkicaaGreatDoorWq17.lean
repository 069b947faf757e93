/- Proved: several texts in one: what each proves is said ahead of it. -/
import Derived.Test.YtanijpekdnkicaaGreatDoorWq13
import Derived.Lib.AppendZeros
import Derived.Test.YtanijpekdnkicaaGreatDoorWq14
import Derived.Test.YtanijpekdnkicaaGreatDoorWq02
import Derived.Deep.RegionHeld3
import Derived.Test.YtanijpekdnkicaaGreatDoorWq00
import Derived.Test.YtanijpekdnkicaaGreatDoorWq06
import Derived.Test.YtanijpekdnkicaaGreatDoorSzAdd
import Derived.Test.YtanijpekdnkicaaGreatDoorWq05
import Derived.Deep.DeepCutAuto
/- Proved: contracts of slices.Grow of no slice and of slices.Concat of two slices of ints. -/
namespace Go.Proofs.YtanijpekdnkicaaGreatDoor
open Go.ChangeShapes Go.WideShapes Go.ChangeAt Go.RowKit
set_option linter.unusedVariables false
set_option linter.unusedSimpArgs false
theorem zeros_size (n : Nat) : (Builtin.zeroCells (Value.int .i64 0).cells n).size = n := by simp [Builtin.zeroCells, Value.cells]
theorem room_own (w : World) (n c : Nat) (h1 : n ≤ c) (h2 : c ≤ maxLen) : Own (w.drew.alloc (.cells (Builtin.zeroCells (Value.int .i64 0).cells n ++ Builtin.zeroCells (Value.int .i64 0).cells (c - n)) 3)) w.heap.size (.slice (some ⟨w.heap.size, 0, none⟩) 0 c) [] := by
  refine ⟨rfl, Or.inr ⟨w.heap.size, c, _, rfl, Nat.le_refl _, heap_alloc_new w.drew _, Nat.zero_le _, h2, ?_, by simp⟩⟩
  rw [Array.size_append, zeros_size, zeros_size]
  omega
set_option maxHeartbeats 1000000 in
theorem grow_any (n : Nat) (w : World) (hn : n ≤ 100) :
    Calls Tryz.prog 135 #[.slice none 0 0, .int .i64 n] w fun e w' => ∃ v', e = .returned v' ∧ Old w w' ∧ Own w' w.heap.size v' [] := by
  obtain ⟨i0, hi, hz0, hz1, hz2⟩ := info_parts Tryz.infoInt
  have d0 : decide ((n : Int) < 0) = false := decide_eq_false (by omega)
  rcases Nat.eq_zero_or_pos n with h0 | h0
  · subst h0
    go_enter Tryz.func135, Tryz.ntmps135
    go_wp2_with fail
    go_ret
    exact ⟨_, rfl, Old.refl _, ⟨rfl, Or.inl ⟨rfl, rfl⟩⟩⟩
  · have d1 : decide ((0 : Int) < (n : Int)) = true := decide_eq_true (by omega)
    have hr := Lib.run_append_nil_zeros (P := Tryz.prog) w 22 3 22 3 i0 (.int .i64 0) .i64 .i64 Tryz.underlying22 Tryz.underlying3 hi hz0 n h0 (by omega) (by omega) (by rw [hz2]; omega)
    have hc1 := grownCap_ge w n 0 3
    have hc2 := grownCap_le_maxLen w n 0 3 (by unfold maxLen; omega)
    have HO : Hid (Own (w.drew.alloc (.cells (Builtin.zeroCells (Value.int .i64 0).cells n ++ Builtin.zeroCells (Value.int .i64 0).cells (grownCap w n 0 3 - n)) 3)) w.heap.size (.slice (some ⟨w.heap.size, 0, none⟩) 0 (grownCap w n 0 3)) []) := room_own w n _ hc1 hc2
    have HG : Hid (Old w (w.drew.alloc (.cells (Builtin.zeroCells (Value.int .i64 0).cells n ++ Builtin.zeroCells (Value.int .i64 0).cells (grownCap w n 0 3 - n)) 3))) := Old.alloc (Below.drew (Old.refl w)) _
    generalize grownCap w n 0 3 = c at *
    generalize w.drew.alloc (.cells (Builtin.zeroCells (Value.int .i64 0).cells n ++ Builtin.zeroCells (Value.int .i64 0).cells (c - n)) 3) = w2 at *
    have HR : Hid ((Builtin.append_ #[22, 3] 22 #[.slice none 0 0, .int .i64 n]).run Tryz.prog w = .ok (.slice (some ⟨w.heap.size, 0, none⟩) n c) w2) := hr
    clear hr
    go_enter Tryz.func135, Tryz.ntmps135
    go_wp2_with (at_builtin; refine Lib.wpList_append_run _ rfl _ _ 22 3 rfl _ _ rfl rfl _ _ HR.out ?_)
    go_ret
    exact ⟨_, rfl, HG.out, HO.out⟩
def Lie (w : World) (ad : Addr) (xs : List Int) : Prop := ∀ j u, (xs.map (Value.int .i64))[j]? = some u → w.cell? (ad.add j) = some u
theorem Lie.old {w w' : World} {ad : Addr} {xs : List Int} (h : Lie w ad xs) (g : Old w w') : Lie w' ad xs := fun j u hj => by
  have h1 := h j u hj
  rw [g.cell (block_lt_of_cell h1)]
  exact h1
theorem ints_one (xs : List Int) : ∀ u ∈ xs.map (Value.int .i64), u.oneCell' = true := by
  intro u hu
  obtain ⟨x, _, rfl⟩ := List.mem_map.1 hu
  rfl
end Go.Proofs.YtanijpekdnkicaaGreatDoor
/- Proved: the contracts of slices.Concat of rows, and of the functions that write rows as bytes. -/
namespace Go.Proofs.YtanijpekdnkicaaGreatDoor
open Go.ChangeShapes Go.WideShapes Go.ChangeAt Go.RowKit
set_option linter.unusedVariables false
set_option linter.unusedSimpArgs false
theorem lie_row {w : World} {xs : List Int} {b o : Nat} (h : ∀ j, j < xs.length → w.cell? ⟨b, o + j, none⟩ = some (.int .i64 (xs.getD j 0))) : Lie w ⟨b, o, none⟩ xs := fun j u hj => by
  rw [List.getElem?_map] at hj
  cases hx : xs[j]? with
  | none => rw [hx] at hj; simp at hj
  | some y =>
    rw [hx] at hj
    simp at hj
    subst hj
    have hl : j < xs.length := (List.getElem?_eq_some_iff.1 hx).1
    have h1 := h j hl
    rw [show xs.getD j 0 = y by simp [List.getD, hx]] at h1
    by_cases h0 : j = 0
    · subst h0
      simpa [Addr.add] using h1
    · simpa [Addr.add, h0] using h1
theorem flat_succ {α : Type} (xss : List (List α)) (k : Nat) (h : k < xss.length) : (xss.take (k + 1)).flatten = (xss.take k).flatten ++ xss.getD k [] := by
  have e : xss.take (k + 1) = xss.take k ++ [xss.getD k []] := by
    rw [List.take_add_one]
    simp [List.getD, h]
  rw [e]
  simp
theorem flat_le {α : Type} (xss : List (List α)) (h : ∀ r ∈ xss, r.length ≤ 16) : ∀ k, (xss.take k).flatten.length ≤ 16 * k
  | 0 => by simp
  | k + 1 => by
    by_cases hk : k < xss.length
    · rw [flat_succ _ _ hk, List.length_append]
      have h1 := flat_le xss h k
      have h2 : (xss.getD k []).length ≤ 16 := h _ (by simp [List.getD, hk])
      omega
    · have h1 := flat_le xss h k
      rw [List.take_of_length_le (by omega)] at h1 ⊢
      omega
set_option maxRecDepth 100000 in
set_option maxHeartbeats 4000000 in
theorem concat_rows (xss : List (List Int)) (u : Value) (w : World) (hu : RowS w u xss) (hl : xss.length ≤ 6) (hr : ∀ r ∈ xss, 1 ≤ r.length ∧ r.length ≤ 16) :
    Calls Tryz.prog 101 #[u] w fun e w' => ∃ v', e = .returned v' ∧ Old w w' ∧ Own w' w.heap.size v' xss.flatten := by
  obtain ⟨i0, hi, hz0, hz1, hz2⟩ := info_parts Tryz.infoInt
  obtain ⟨fl, hfl⟩ : ∃ f : Nat → List Int, ∀ k, f k = (xss.take k).flatten := ⟨_, fun _ => rfl⟩
  have HLE : Hid (∀ k, k ≤ 6 → (fl k).length ≤ 96) := fun k hk => by
    have := flat_le xss (fun r h => (hr r h).2) k
    rw [hfl]
    omega
  have HSU : Hid (∀ k, k < xss.length → fl (k + 1) = fl k ++ xss.getD k []) := fun k hk => by rw [hfl, hfl]; exact flat_succ xss k hk
  obtain ⟨FL, hFL⟩ : ∃ F, xss.flatten = F := ⟨_, rfl⟩
  rw [hFL]
  have HEN : Hid (fl xss.length = FL) := by show _ = _; rw [hfl, List.take_length]; exact hFL
  have HZ : Hid (fl 0 = []) := by show _ = _; rw [hfl]; rfl
  have HRL : Hid (∀ k, k < xss.length → 1 ≤ (xss.getD k []).length ∧ (xss.getD k []).length ≤ 16) := fun k hk => hr _ (by simp [List.getD, hk])
  obtain ⟨ua, uc, eu⟩ := hu.slice
  subst eu
  have HC : Hid (∀ k, k < xss.length → ∃ b o, ua = some ⟨b, o, none⟩ ∧ b < w.heap.size ∧ ∃ a1 c1, w.cell? ⟨b, o + k, none⟩ = some (.slice (some a1) (xss.getD k []).length c1) ∧ Lie w a1 (xss.getD k [])) := fun k hk => by
    rcases hu with ⟨_, _, _, e'⟩ | ⟨b, o, cap, us, e, hb, h0, hc⟩
    · subst e'
      simp at hk
    · obtain ⟨rfl, _⟩ : ua = some ⟨b, o, none⟩ ∧ uc = cap := by simpa using e
      obtain ⟨h1, h2⟩ := hc k hk
      have hp := HRL.out k hk
      rcases h2 with ⟨_, _, _, e'⟩ | ⟨b2, o2, c2, e2, hb2, h02, hc2⟩
      · rw [e'] at hp
        simp at hp
      · rw [e2] at h1
        exact ⟨b, o, rfl, hb, _, _, h1, lie_row hc2⟩
  clear hu hr hfl hFL
  go_enter Tryz.func101, Tryz.ntmps101
  go_wp2_with fail
  go_loopw [3, 5, 11] (fun s _ i W => ∃ k : Nat, k ≤ xss.length ∧ i = .int .i64 k ∧ s = .int .i64 ((fl k).length : Int) ∧ Hid (W = w)) (fun _ _ i _ => xss.length - (intOf i).toNat)
  case atStart => exact ⟨0, by omega, rfl, by rw [HZ.out]; rfl, rfl⟩
  case round =>
    obtain ⟨k, hk, rfl, rfl, hw⟩ := hrel
    have hw := hw.out.symm
    subst hw
    by_cases hlt : k < xss.length
    · have d1 : decide ((k : Int) < (xss.length : Int)) = true := by simp; omega
      have ilt : (k : Int) < (xss.length : Int) := by omega
      obtain ⟨b, o, rfl, hb, a1, c1, hc, _⟩ := HC.out k hlt
      have h3 := HRL.out k hlt
      have h4 := HLE.out k (by omega)
      have h5 := HLE.out (k + 1) (by omega)
      have h6 := HSU.out k hlt
      have HF : Hid ((fl (k + 1)).length = (fl k).length + (xss.getD k []).length) := by show _ = _; rw [h6, List.length_append]
      obtain ⟨S, hS⟩ : ∃ S, (fl k).length = S := ⟨_, rfl⟩
      obtain ⟨S2, hS2⟩ : ∃ S, (fl (k + 1)).length = S := ⟨_, rfl⟩
      obtain ⟨m, hm⟩ : ∃ S, (xss.getD k []).length = S := ⟨_, rfl⟩
      rw [hS, hS2, hm] at HF
      rw [hS2] at h5
      have hS2' := hidP0 hS2
      rw [hm] at hc h3
      rw [hS] at h4 ⊢
      have e2 : (S : Int) + (m : Int) = (S2 : Int) := by have := HF.out; omega
      have d2 : decide ((S2 : Int) < 0) = false := decide_eq_false (by omega)
      clear hS hS2 hm h6 HF
      go_wp2_with fail
      exact ⟨⟨k + 1, by omega, by go_num, by rw [hS2'.out], (by first | exact rfl | trivial)⟩, by simp [intOf]; omega⟩
    · have d1 : decide ((k : Int) < (xss.length : Int)) = false := by simp; omega
      obtain rfl : k = xss.length := by omega
      have h4 := HLE.out xss.length hl
      obtain ⟨n, hn⟩ : ∃ S, (fl xss.length).length = S := ⟨_, rfl⟩
      rw [hn] at h4 ⊢
      have cg := fun W => grow_any n W (by omega)
      clear hn
      go_wp2_with fail
      refine (cg _).mono ?_
      rintro e w1 ⟨v1, rfl, g1, o1⟩
      have HG1 : Hid (Old w w1) := g1
      have HO1 : Hid (Own w1 w.heap.size v1 (fl 0)) := by rw [HZ.out]; exact o1
      clear g1 o1 cg
      obtain ⟨va, vc, rfl⟩ := (Own.row HO1.out).slice
      go_wp2_with fail
      go_loopw [6, 8, 27] (fun t _ i W => ∃ k : Nat, k ≤ xss.length ∧ i = .int .i64 k ∧ Hid (Own W w.heap.size t (fl k)) ∧ Hid (Old w W)) (fun _ _ i _ => xss.length - (intOf i).toNat)
      case atStart => exact ⟨0, by omega, rfl, HO1, HG1⟩
      case round =>
        clear HO1 HG1
        obtain ⟨k, hk, rfl, HO, HG⟩ := hrel
        obtain ⟨ta, tc, rfl⟩ := (Own.row HO.out).slice
        by_cases hlt : k < xss.length
        · have d1 : decide ((k : Int) < (xss.length : Int)) = true := by simp; omega
          have ilt : (k : Int) < (xss.length : Int) := by omega
          obtain ⟨b, o, rfl, hb, a1, c1, hc, hlie⟩ := HC.out k hlt
          have hc2 := (HG.out.cell (p := ⟨b, o + k, none⟩) hb).trans hc
          have HLi := hidP0 (hlie.old HG.out)
          have h3 := HRL.out k hlt
          have h4 := HLE.out k (by omega)
          have h6 := hidP0 (HSU.out k hlt)
          have hsz := HG.out.size
          obtain ⟨F, hF⟩ : ∃ F, (fl k) = F := ⟨_, rfl⟩
          obtain ⟨xs, hxs⟩ : ∃ F, xss.getD k [] = F := ⟨_, rfl⟩
          rw [hF, hxs] at h6
          rw [hF] at HO h4
          rw [hF]
          rw [hxs] at hc2 HLi h3
          have HM := hidP0 (show (xs.map (Value.int .i64)).length = xs.length * 1 by simp)
          clear hF hxs hc hlie
          go_wp2_with (at_builtin; refine wpList_append_own _ rfl _ _ 22 rfl w.heap.size 3 i0 (.int .i64 0) 1 8 Tryz.underlying22 hi hz0 hz1 hz2 rfl (by decide) _ F.length (F.map (Value.int .i64)) rfl HO.out a1 xs.length c1 (xs.map (Value.int .i64)) rfl HM.out HLi.out (ints_one xs) (by unfold maxLen; omega) (by omega) hsz ?_; intro v3 w3 o3 g3 x3; have HO3 : Hid (Own w3 w.heap.size v3 (F ++ xs)) := (by unfold Own; show w3.ownsRow _ _ _ _ _ _; rw [List.length_append, List.map_append]; exact o3); have HG3 : Hid (Old w w3) := Below.grown HG.out g3 hsz (fun j hj => (HO.out.lt j hj).1); clear o3 g3 x3)
          rw [← h6.out] at HO3
          exact ⟨⟨k + 1, by omega, by go_num, HO3, HG3⟩, by simp [intOf]; omega⟩
        · have d1 : decide ((k : Int) < (xss.length : Int)) = false := by simp; omega
          obtain rfl : k = xss.length := by omega
          have HO2 := HO.out
          obtain ⟨L, hL⟩ : ∃ L, (fl xss.length) = L := ⟨_, rfl⟩
          rw [hL] at HO2 ⊢
          have HO3 := hidP0 HO2
          have hL2 : FL = L := HEN.out.symm.trans hL
          clear HO2 HO hL
          go_wp2_with fail
          go_ret
          rw [hL2]
          exact ⟨_, rfl, HG.out, HO3.out⟩
def rwsB (xss : List (List Int)) : List Int := nbs 4 xss.flatten
theorem nbs_app (w : Nat) (xs ys : List Int) : nbs w (xs ++ ys) = nbs w xs ++ nbs w ys := by simp [nbs]
theorem rwsB_succ (xss : List (List Int)) (k : Nat) (h : k < xss.length) : rwsB (xss.take (k + 1)) = rwsB (xss.take k) ++ nbs 4 (xss.getD k []) := by
  unfold rwsB
  rw [flat_succ _ _ h, nbs_app]
set_option maxRecDepth 100000 in
set_option maxHeartbeats 4000000 in
theorem impl_withRows (base : Nat) (xss : List (List Int)) (bs : List Int) (v u : Value) (w w1 : World) (ho : BO w base v bs) (hb : base ≤ w.heap.size) (hu : RowS w1 u xss) (g1 : Old w1 w) (hl : xss.length ≤ 6) (hr : ∀ r ∈ xss, 1 ≤ r.length ∧ r.length ≤ 16) (hlb : bs.length ≤ 900000) :
    Calls Tryz.prog 71 #[v, u] w (BA base (bs ++ rwsB xss) w) := by
  have HO := hidP0 ho
  have KC := hidP0 (concat_rows xss u w (hu.old g1) hl hr)
  have hfl := flat_le xss (fun r h => (hr r h).2) xss.length
  rw [List.take_length] at hfl
  obtain ⟨F, hF⟩ : ∃ F, xss.flatten = F := ⟨_, rfl⟩
  have hR : rwsB xss = nbs 4 F := by rw [← hF]; rfl
  rw [hF] at KC hfl
  rw [hR]
  have HFL := hidP0 hfl
  obtain ⟨va, vc, rfl⟩ := ho.slice
  obtain ⟨ua, uc, rfl⟩ := hu.slice
  clear ho hu g1 hr hfl hF hR
  go_enter Tryz.func71, Tryz.ntmps71
  go_wp2_with fail
  refine KC.out.mono ?_
  rintro e w2 ⟨v2, rfl, g2, o2⟩
  have K2 := hidP0 (impl_withNumbers base 4 F bs (.slice va bs.length vc) v2 w2 (HO.out.old g2) (Nat.le_trans hb g2.size) (fun W r => Own.row (r.own o2)) (by omega) (by have := HFL.out; omega))
  have G2 := hidP0 g2
  obtain ⟨xa, xc, rfl⟩ := (Own.row o2).slice
  clear g2 o2 KC HO
  go_wp2_with fail
  refine K2.out.mono ?_
  rintro e w3 ⟨v3, rfl, o3, r3⟩
  have HO3 := hidP0 o3
  have R3 := hidP0 ((Rg.of_old G2.out hb).trans r3)
  clear o3 r3 K2
  go_wp2_with fail
  go_ret
  exact ⟨_, rfl, HO3.out, R3.out⟩
set_option maxRecDepth 100000 in
set_option maxHeartbeats 4000000 in
theorem spec_l12Rows (base : Nat) (xss : List (List Int)) (bs : List Int) (v u : Value) (w w1 : World) (ho : BO w base v bs) (hb : base ≤ w.heap.size) (hu : RowS w1 u xss) (g1 : Old w1 w) (hb1 : w1.heap.size ≤ base) (hl : xss.length ≤ 6) (hr : ∀ r ∈ xss, 1 ≤ r.length ∧ r.length ≤ 16) (hlb : bs.length ≤ 900000) :
    Calls Tryz.prog 65 #[v, u] w (BA base (bs ++ rwsB xss) w) := by
  have HG0 := hidP0 g1
  have HRL : Hid (∀ k, k < xss.length → 1 ≤ (xss.getD k []).length ∧ (xss.getD k []).length ≤ 16) := fun k hk => hr _ (by simp [List.getD, hk])
  obtain ⟨ua, uc, eu⟩ := hu.slice
  subst eu
  have HC : Hid (∀ k, k < xss.length → ∃ b o, ua = some ⟨b, o, none⟩ ∧ b < w1.heap.size ∧ ∃ b2 o2 c2, w1.cell? ⟨b, o + k, none⟩ = some (.slice (some ⟨b2, o2, none⟩) (xss.getD k []).length c2) ∧ b2 < w1.heap.size ∧ ∀ j, j < (xss.getD k []).length → w1.cell? ⟨b2, o2 + j, none⟩ = some (.int .i64 ((xss.getD k []).getD j 0))) := fun k hk => by
    rcases hu with ⟨_, _, _, e'⟩ | ⟨b, o, cap, us, e, hbb, h0, hc⟩
    · subst e'
      simp at hk
    · obtain ⟨rfl, _⟩ : ua = some ⟨b, o, none⟩ ∧ uc = cap := by simpa using e
      obtain ⟨h1, h2⟩ := hc k hk
      have hp := HRL.out k hk
      rcases h2 with ⟨_, _, _, e'⟩ | ⟨b2, o2, c2, e2, hb2, h02, hc2⟩
      · rw [e'] at hp
        simp at hp
      · rw [e2] at h1
        exact ⟨b, o, rfl, hbb, b2, o2, c2, h1, hb2, hc2⟩
  have HSU : Hid (∀ k, k < xss.length → rwsB (xss.take (k + 1)) = rwsB (xss.take k) ++ nbs 4 (xss.getD k [])) := fun k hk => rwsB_succ xss k hk
  have HLN : Hid (∀ k, k ≤ 6 → (bs ++ rwsB (xss.take k)).length ≤ 900400) := fun k hk => by
    have := flat_le xss (fun r h => (hr r h).2) k
    unfold rwsB
    rw [List.length_append, nbs_len]
    omega
  have HEN : Hid (rwsB (xss.take xss.length) = rwsB xss) := by show _ = _; rw [List.take_length]
  have HN := hidP0 (fun (many : Nat) (x : Int) (ds : List Int) (t : Value) (W : World) (h1 : BO W base t ds) (h2 : base ≤ W.heap.size) (h3 : ds.length ≤ 1000000) => spec_l12Number base 4 x ds t W h1 h2 (by omega) h3)
  have HO : Hid (BO w base v (bs ++ rwsB (xss.take 0))) := by
    have : bs ++ rwsB (xss.take 0) = bs := by simp [rwsB, nbs]
    rw [this]
    exact ho
  clear ho hu g1 hr
  go_enter Tryz.func65, Tryz.ntmps65
  go_wp2_with fail
  go_loopw [0, 6, 8, 11] (fun t _ _ i W => ∃ k : Nat, k ≤ xss.length ∧ i = .int .i64 k ∧ Hid (BO W base t (bs ++ rwsB (xss.take k))) ∧ Hid (Rg base w W)) (fun _ _ _ i _ => xss.length - (intOf i).toNat)
  case atStart => exact ⟨0, by omega, rfl, HO, Rg.refl _ _⟩
  case round =>
    clear HO
    obtain ⟨k, hk, rfl, HO, HG⟩ := hrel
    obtain ⟨ta0, tc0, rfl⟩ := HO.out.slice
    by_cases hlt : k < xss.length
    · have d1 : decide ((k : Int) < (xss.length : Int)) = true := by simp; omega
      have ilt : (k : Int) < (xss.length : Int) := by omega
      obtain ⟨b, o, rfl, hbb, b2, o2, c2, hc, hb2, hcs⟩ := HC.out k hlt
      have G0 := HG.out.old HG0.out hb1
      have c0 := (G0.cell (p := ⟨b, o + k, none⟩) hbb).trans hc
      have h3 := HRL.out k hlt
      have h4 := HLN.out k (by omega)
      have h6 := HSU.out k hlt
      obtain ⟨ds, hds⟩ : ∃ z, bs ++ rwsB (xss.take k) = z := ⟨_, rfl⟩
      obtain ⟨xs, hxs⟩ : ∃ F, xss.getD k [] = F := ⟨_, rfl⟩
      rw [hxs] at c0 h3 hcs h6
      have HCS := hidP0 hcs
      have HN2 : Hid (∀ W t, BO W base t (ds ++ nbs 4 xs) → BO W base t (bs ++ rwsB (xss.take (k + 1)))) := fun W t h => by
        rw [h6, ← List.append_assoc, hds]
        exact h
      rw [hds] at HO h4
      rw [hds]
      have HO1 : Hid (BO wr base (.slice ta0 ds.length tc0) (ds ++ nbs 4 (xs.take 0))) := by
        have : ds ++ nbs 4 (xs.take 0) = ds := by simp [nbs]
        rw [this]
        exact HO.out
      clear hds hxs h6 hc hcs G0 HO
      go_wp2_with fail
      go_loopw [0, 8, 17] (fun t _ j W => ∃ q : Nat, q ≤ xs.length ∧ j = .int .i64 q ∧ Hid (BO W base t (ds ++ nbs 4 (xs.take q))) ∧ Hid (Rg base w W)) (fun _ _ j _ => xs.length - (intOf j).toNat)
      case atStart => exact ⟨0, by omega, rfl, HO1, HG⟩
      case round =>
        clear HO1 HG c0
        obtain ⟨q, hq, rfl, HO, HG⟩ := hrel
        obtain ⟨ta, tc, etv⟩ := HO.out.slice
        by_cases hlq : q < xs.length
        · have d2 : decide ((q : Int) < (xs.length : Int)) = true := by simp; omega
          have ilq : (q : Int) < (xs.length : Int) := by omega
          have G0 := HG.out.old HG0.out hb1
          have c1 := (G0.cell (p := ⟨b2, o2 + q, none⟩) hb2).trans (HCS.out q hlq)
          have hlen : (ds ++ nbs 4 (xs.take q)).length ≤ 1000000 := by
            rw [List.length_append, nbs_len, List.length_take]
            omega
          have hsu : ds ++ nbs 4 (xs.take (q + 1)) = (ds ++ nbs 4 (xs.take q)) ++ nb (xs.getD q 0) 4 := by rw [nbs_succ _ _ _ hlq, List.append_assoc]
          have HSQ := hidP0 hsu
          have KN := hidP0 (HN.out 4 (xs.getD q 0) _ _ wr HO.out (Nat.le_trans hb HG.out.size) hlen)
          subst etv
          obtain ⟨es, hes⟩ : ∃ z, ds ++ nbs 4 (xs.take q) = z := ⟨_, rfl⟩
          rw [hes] at KN HSQ HO
          rw [hes]
          generalize xs.getD q 0 = x at *
          clear G0 hlen hsu hes
          go_wp2_with fail
          refine KN.out.mono ?_
          rintro e w3 ⟨v3, rfl, o3, r3⟩
          rw [← HSQ.out] at o3
          have HO3 := hidP0 o3
          have R3 := hidP0 (HG.out.trans r3)
          clear o3 r3 KN HSQ HO
          go_wp2_with fail
          exact ⟨⟨q + 1, by omega, by go_num, HO3, R3⟩, by simp [intOf]; omega⟩
        · have d2 : decide ((q : Int) < (xs.length : Int)) = false := by simp; omega
          obtain rfl : q = xs.length := by omega
          have HO2 : Hid (BO wr base (.slice ta (ds ++ nbs 4 (xs.take xs.length)).length tc) (bs ++ rwsB (xss.take (k + 1)))) := by
            refine HN2.out _ _ ?_
            have h1 := HO.out
            rw [etv] at h1
            rw [List.take_length] at h1 ⊢
            exact h1
          subst etv
          clear HO HN2
          go_wp2_with fail
          exact ⟨⟨k + 1, by omega, by go_num, HO2, HG⟩, by simp [intOf]; omega⟩
    · have d1 : decide ((k : Int) < (xss.length : Int)) = false := by simp; omega
      obtain rfl : k = xss.length := by omega
      have HO2 := HO.out
      have hEN := HEN.out
      rw [hEN] at HO2 ⊢
      have HO3 := hidP0 HO2
      clear HO2 HO hEN
      go_wp2_with fail
      go_ret
      exact ⟨_, rfl, HO3.out, HG.out⟩
end Go.Proofs.YtanijpekdnkicaaGreatDoor
/- Proved: what the model answers, as functions of the numbers: comparing, what is left by a word, the whole number of a word. -/
namespace Go.Proofs.YtanijpekdnkicaaGreatDoor
open Go.ChangeShapes Go.WideShapes Go.ChangeAt Go.RowKit
open M2
set_option linter.unusedVariables false
set_option linter.unusedSimpArgs false
def cmpW (n m : Bool) (xs ys : List Int) : Int := if Good n xs ∧ Good m ys then cmpI (sv n (nat xs)) (sv m (nat ys)) else 0
end Go.Proofs.YtanijpekdnkicaaGreatDoor
/- Proved: AddBound of the program and of its model tell the same, as a function of the numbers. -/
namespace Go.Proofs.YtanijpekdnkicaaGreatDoor
open Go.ChangeShapes Go.WideShapes Go.ChangeAt Go.RowKit
open M2
set_option linter.unusedVariables false
set_option linter.unusedSimpArgs false
set_option maxRecDepth 100000 in
set_option maxHeartbeats 4000000 in
theorem isFrom_ab (n G : Bool) (a : Option Addr) (l c : Nat) (w : World) (KG : ∀ W, Old w W → Calls Tryz.prog 161 #[.agg #[.bool n, .slice a l c]] W fun e w' => e = .returned (.bool G) ∧ Old W w') :
    Calls Tryz.prog 147 #[.agg #[.bool n, .slice a l c]] w fun e w' => e = .returned (.bool (G && !n)) ∧ Old w w' := by
  have HA : Hid (Old w (w.alloc (.cells #[.bool n, .slice a l c] 57))) := (Old.refl w).alloc _
  have BX : Hid (Bk (w.alloc (.cells #[.bool n, .slice a l c] 57)) w.heap.size #[.bool n, .slice a l c] 57) := Bk.new' w _ _ rfl
  have y0 := BX.out.c (i := 0) rfl
  have y1 := BX.out.c (i := 1) rfl
  cases G
  all_goals
    go_enter Tryz.func147, Tryz.ntmps147
    go_wp2_with fail
    refine (KG _ HA.out).mono ?_
    rintro e w1 ⟨rfl, g1⟩
    have HG : Hid (Old w w1) := Old.trans HA.out g1
    have B1 : Hid (Bk w1 w.heap.size #[.bool n, .slice a l c] 57) := BX.out.old g1
    have z0 := B1.out.c (i := 0) rfl
    clear g1 y0 y1
    go_wp2_with fail
    go_ret
    exact ⟨by cases n <;> rfl, HG.out⟩
end Go.Proofs.YtanijpekdnkicaaGreatDoor
/- Proved: the contract of the program's CmpWholes: it answers what the model does, as a function of the numbers. -/
namespace Go.Proofs.YtanijpekdnkicaaGreatDoor
open Go.ChangeShapes Go.WideShapes Go.ChangeAt Go.RowKit
open M2
set_option linter.unusedVariables false
set_option linter.unusedSimpArgs false

theorem cmp_negs (x y : Nat) : cmpN y x = cmpI (-(x : Int)) (-(y : Int)) := by
  unfold cmpN cmpI
  (repeat' split) <;> omega
theorem cmp_nats (x y : Nat) : cmpN x y = cmpI (x : Int) (y : Int) := by
  unfold cmpN cmpI
  (repeat' split) <;> omega
set_option maxHeartbeats 8000000 in
theorem impl_cmp (n m : Bool) (xs ys : List Int) (v u : Value) (w : World) (hv : Row w v xs) (hu : Row w u ys) (la : xs.length ≤ 1048576) (lb : ys.length ≤ 1048576) :
    Calls Tryz.prog 148 #[.agg #[.bool n, v], .agg #[.bool m, u]] w fun e w' => e = .returned (.int .i64 (cmpW n m xs ys)) ∧ Old w w' := by
  have HV : Hid (Row w v xs) := hv
  have HU : Hid (Row w u ys) := hu
  obtain ⟨c0, cap0, rfl⟩ := hv.slice
  obtain ⟨c1, cap1, rfl⟩ := hu.slice
  clear hv hu
  have HA : Hid (Old w ((w.alloc (.cells #[.bool n, .slice c0 xs.length cap0] 57)).alloc (.cells #[.bool m, .slice c1 ys.length cap1] 57))) := ((Old.refl w).alloc _).alloc _
  have SA0 : Hid (StW ((w.alloc (.cells #[.bool n, .slice c0 xs.length cap0] 57)).alloc (.cells #[.bool m, .slice c1 ys.length cap1] 57)) w.heap.size (.bool n) (.slice c0 xs.length cap0) 57) := StW.at1 w _ _ _ _ _ _
  have SB0 : Hid (StW ((w.alloc (.cells #[.bool n, .slice c0 xs.length cap0] 57)).alloc (.cells #[.bool m, .slice c1 ys.length cap1] 57)) (w.heap.size + 1) (.bool m) (.slice c1 ys.length cap1) 57) := StW.at2 w _ _ _ _ _ _
  by_cases hga : Good n xs
  · have cga := fun W (h : Row W (.slice c0 xs.length cap0) xs) => good_impl n xs _ W h la
    rw [decide_eq_true hga] at cga
    by_cases hgb : Good m ys
    · have cgb := fun W (h : Row W (.slice c1 ys.length cap1) ys) => good_impl m ys _ W h lb
      rw [decide_eq_true hgb] at cgb
      have hR2 : cmpW n m xs ys = cmpI (sv n (nat xs)) (sv m (nat ys)) := by unfold cmpW; rw [if_pos ⟨hga, hgb⟩]
      rw [hR2]
      obtain ⟨ex, gx, lx⟩ := good_gw hga
      obtain ⟨ey, gy, ly⟩ := good_gw hgb
      have HV2 : Hid (Row w (.slice c0 xs.length cap0) (toI (nat xs))) := by rw [ex]; exact HV.out
      have HU2 : Hid (Row w (.slice c1 ys.length cap1) (toI (nat ys))) := by rw [ey]; exact HU.out
      have HGX : Hid (Gw n (nat xs) ∧ (nat xs).length ≤ 40) := ⟨gx, lx⟩
      have HGY : Hid (Gw m (nat ys) ∧ (nat ys).length ≤ 40) := ⟨gy, ly⟩
      have exl : xs.length = (nat xs).length := (nat_len xs).symm
      have eyl : ys.length = (nat ys).length := (nat_len ys).symm
      have HXL : Hid (xs.length = (nat xs).length) := exl
      have HYL : Hid (ys.length = (nat ys).length) := eyl
      clear hga hgb ex ey gx gy lx ly hR2 exl eyl
      cases n with
      | true =>
        cases m with
        | true =>
          have HE : Hid (cmpN (val (nat ys)) (val (nat xs)) = cmpI (sv true (nat xs)) (sv true (nat ys))) := by
            show cmpN (val (nat ys)) (val (nat xs)) = cmpI (sv true (nat xs)) (sv true (nat ys))
            exact cmp_negs _ _
          go_enter Tryz.func148, Tryz.ntmps148
          go_wp2_with fail
          refine (cga _ (HV.out.old HA.out)).mono ?_
          rintro e w1 ⟨rfl, g1⟩
          have SA1 : Hid (StW w1 w.heap.size (.bool true) (.slice c0 xs.length cap0) 57) := SA0.out.old g1
          have SB1 : Hid (StW w1 (w.heap.size + 1) (.bool true) (.slice c1 ys.length cap1) 57) := SB0.out.old g1
          have HG1 : Hid (Old w w1) := Old.trans HA.out g1
          have b0 := SB1.out.c0
          have b1 := SB1.out.c1
          clear g1 HA
          go_wp2_with fail
          refine (cgb _ (HU.out.old HG1.out)).mono ?_
          rintro e w2 ⟨rfl, g2⟩
          clear b0 b1
          have SA2 : Hid (StW w2 w.heap.size (.bool true) (.slice c0 xs.length cap0) 57) := SA1.out.old g2
          have SB2 : Hid (StW w2 (w.heap.size + 1) (.bool true) (.slice c1 ys.length cap1) 57) := SB1.out.old g2
          have HG2 : Hid (Old w w2) := Old.trans HG1.out g2
          clear g2 SA1 SB1 HG1 cga cgb
          have a0 := SA2.out.c0
          have a1 := SA2.out.c1
          have b0 := SB2.out.c0
          have b1 := SB2.out.c1
          have HAS : Hid (∀ W', Old w2 W' → (W'.cell? ⟨w.heap.size, 0, none⟩ = some (.bool true) ∧ W'.cell? ⟨w.heap.size, 1, none⟩ = some (.slice c0 xs.length cap0) ∧ W'.cell? ⟨w.heap.size + 1, 0, none⟩ = some (.bool true) ∧ W'.cell? ⟨w.heap.size + 1, 1, none⟩ = some (.slice c1 ys.length cap1))) := fun W' g => ⟨(SA2.out.old g).c0, (SA2.out.old g).c1, (SB2.out.old g).c0, (SB2.out.old g).c1⟩
          have tok : True := trivial
          go_wp2_with fail
          go_region_held3 (fun W' => W'.cell? ⟨w.heap.size, 0, none⟩ = some (.bool true) ∧ W'.cell? ⟨w.heap.size, 1, none⟩ = some (.slice c0 xs.length cap0) ∧ W'.cell? ⟨w.heap.size + 1, 0, none⟩ = some (.bool true) ∧ W'.cell? ⟨w.heap.size + 1, 1, none⟩ = some (.slice c1 ys.length cap1)) (first | exact HAS.out _ G5.out | exact HAS.out _ G4.out | exact HAS.out _ G3.out | exact HAS.out _ (Below.drew (Old.refl w2)) | exact HAS.out _ (Old.refl w2)) (first
            | (go_at_call 163; have _t := tok; refine (sizeOf_sz true (nat ys) _ _ (HU2.out.old (HG2.out.drewN 1)) HGY.out.1.1 (by have := HGY.out.2; omega)).mono ?_; rintro e w3 ⟨rfl, g3⟩; have G3 : Hid (Old w2 w3) := Old.trans ((Old.refl _).drewN 1) g3; clear tok g3)
            | (go_at_call 163; refine (sizeOf_sz true (nat xs) _ _ (HV2.out.old (Old.trans HG2.out G3.out)) HGX.out.1.1 (by have := HGX.out.2; omega)).mono ?_; rintro e w4 ⟨rfl, g4⟩; have G4 : Hid (Old w2 w4) := Old.trans G3.out g4; clear g4)
            | (go_at_call 162; refine (cmp_sz (val (nat ys)) (val (nat xs)) _ (by rw [cnt_nrm HGY.out.1.1]; have := HGY.out.2; omega) (by rw [cnt_nrm HGX.out.1.1]; have := HGX.out.2; omega)).mono ?_; rintro e w5 ⟨rfl, g5⟩; have G5 : Hid (Old w2 w5) := Old.trans G4.out g5; clear g5))
          all_goals
            go_wp2_with fail
            go_ret
            exact ⟨congrArg (fun z => Ending.returned (.int .i64 z)) HE.out, Old.trans HG2.out G5.out⟩
        | false =>
          have HE : Hid (-1 = cmpI (sv true (nat xs)) (sv false (nat ys))) := by
            have hp := HGX.out.1.pos rfl
            show -1 = cmpI (sv true (nat xs)) (sv false (nat ys))
            simp only [sv, cmpI, if_true, Bool.false_eq_true, if_false]
            rw [if_pos (by omega)]
          go_enter Tryz.func148, Tryz.ntmps148
          go_wp2_with fail
          refine (cga _ (HV.out.old HA.out)).mono ?_
          rintro e w1 ⟨rfl, g1⟩
          have SA1 : Hid (StW w1 w.heap.size (.bool true) (.slice c0 xs.length cap0) 57) := SA0.out.old g1
          have SB1 : Hid (StW w1 (w.heap.size + 1) (.bool false) (.slice c1 ys.length cap1) 57) := SB0.out.old g1
          have HG1 : Hid (Old w w1) := Old.trans HA.out g1
          have b0 := SB1.out.c0
          have b1 := SB1.out.c1
          clear g1 HA
          go_wp2_with fail
          refine (cgb _ (HU.out.old HG1.out)).mono ?_
          rintro e w2 ⟨rfl, g2⟩
          clear b0 b1
          have SA2 : Hid (StW w2 w.heap.size (.bool true) (.slice c0 xs.length cap0) 57) := SA1.out.old g2
          have SB2 : Hid (StW w2 (w.heap.size + 1) (.bool false) (.slice c1 ys.length cap1) 57) := SB1.out.old g2
          have HG2 : Hid (Old w w2) := Old.trans HG1.out g2
          clear g2 SA1 SB1 HG1 cga cgb
          have a0 := SA2.out.c0
          have a1 := SA2.out.c1
          have b0 := SB2.out.c0
          have b1 := SB2.out.c1
          go_wp2_with fail
          go_ret
          exact ⟨congrArg (fun z => Ending.returned (.int .i64 z)) HE.out, HG2.out⟩
      | false =>
        cases m with
        | true =>
          have HE : Hid (1 = cmpI (sv false (nat xs)) (sv true (nat ys))) := by
            have hp := HGY.out.1.pos rfl
            show 1 = cmpI (sv false (nat xs)) (sv true (nat ys))
            simp only [sv, cmpI, if_true, Bool.false_eq_true, if_false]
            rw [if_neg (by omega), if_pos (by omega)]
          go_enter Tryz.func148, Tryz.ntmps148
          go_wp2_with fail
          refine (cga _ (HV.out.old HA.out)).mono ?_
          rintro e w1 ⟨rfl, g1⟩
          have SA1 : Hid (StW w1 w.heap.size (.bool false) (.slice c0 xs.length cap0) 57) := SA0.out.old g1
          have SB1 : Hid (StW w1 (w.heap.size + 1) (.bool true) (.slice c1 ys.length cap1) 57) := SB0.out.old g1
          have HG1 : Hid (Old w w1) := Old.trans HA.out g1
          have b0 := SB1.out.c0
          have b1 := SB1.out.c1
          clear g1 HA
          go_wp2_with fail
          refine (cgb _ (HU.out.old HG1.out)).mono ?_
          rintro e w2 ⟨rfl, g2⟩
          clear b0 b1
          have SA2 : Hid (StW w2 w.heap.size (.bool false) (.slice c0 xs.length cap0) 57) := SA1.out.old g2
          have SB2 : Hid (StW w2 (w.heap.size + 1) (.bool true) (.slice c1 ys.length cap1) 57) := SB1.out.old g2
          have HG2 : Hid (Old w w2) := Old.trans HG1.out g2
          clear g2 SA1 SB1 HG1 cga cgb
          have a0 := SA2.out.c0
          have a1 := SA2.out.c1
          have b0 := SB2.out.c0
          have b1 := SB2.out.c1
          go_wp2_with fail
          go_ret
          exact ⟨congrArg (fun z => Ending.returned (.int .i64 z)) HE.out, HG2.out⟩
        | false =>
          have HE : Hid (cmpN (val (nat xs)) (val (nat ys)) = cmpI (sv false (nat xs)) (sv false (nat ys))) := by
            show cmpN (val (nat xs)) (val (nat ys)) = cmpI (sv false (nat xs)) (sv false (nat ys))
            exact cmp_nats _ _
          go_enter Tryz.func148, Tryz.ntmps148
          go_wp2_with fail
          refine (cga _ (HV.out.old HA.out)).mono ?_
          rintro e w1 ⟨rfl, g1⟩
          have SA1 : Hid (StW w1 w.heap.size (.bool false) (.slice c0 xs.length cap0) 57) := SA0.out.old g1
          have SB1 : Hid (StW w1 (w.heap.size + 1) (.bool false) (.slice c1 ys.length cap1) 57) := SB0.out.old g1
          have HG1 : Hid (Old w w1) := Old.trans HA.out g1
          have b0 := SB1.out.c0
          have b1 := SB1.out.c1
          clear g1 HA
          go_wp2_with fail
          refine (cgb _ (HU.out.old HG1.out)).mono ?_
          rintro e w2 ⟨rfl, g2⟩
          clear b0 b1
          have SA2 : Hid (StW w2 w.heap.size (.bool false) (.slice c0 xs.length cap0) 57) := SA1.out.old g2
          have SB2 : Hid (StW w2 (w.heap.size + 1) (.bool false) (.slice c1 ys.length cap1) 57) := SB1.out.old g2
          have HG2 : Hid (Old w w2) := Old.trans HG1.out g2
          clear g2 SA1 SB1 HG1 cga cgb
          have a0 := SA2.out.c0
          have a1 := SA2.out.c1
          have b0 := SB2.out.c0
          have b1 := SB2.out.c1
          have HAS : Hid (∀ W', Old w2 W' → (W'.cell? ⟨w.heap.size, 0, none⟩ = some (.bool false) ∧ W'.cell? ⟨w.heap.size, 1, none⟩ = some (.slice c0 xs.length cap0) ∧ W'.cell? ⟨w.heap.size + 1, 0, none⟩ = some (.bool false) ∧ W'.cell? ⟨w.heap.size + 1, 1, none⟩ = some (.slice c1 ys.length cap1))) := fun W' g => ⟨(SA2.out.old g).c0, (SA2.out.old g).c1, (SB2.out.old g).c0, (SB2.out.old g).c1⟩
          have tok : True := trivial
          go_wp2_with fail
          go_region_held3 (fun W' => W'.cell? ⟨w.heap.size, 0, none⟩ = some (.bool false) ∧ W'.cell? ⟨w.heap.size, 1, none⟩ = some (.slice c0 xs.length cap0) ∧ W'.cell? ⟨w.heap.size + 1, 0, none⟩ = some (.bool false) ∧ W'.cell? ⟨w.heap.size + 1, 1, none⟩ = some (.slice c1 ys.length cap1)) (first | exact HAS.out _ G5.out | exact HAS.out _ G4.out | exact HAS.out _ G3.out | exact HAS.out _ (Below.drew (Old.refl w2)) | exact HAS.out _ (Old.refl w2)) (first
            | (go_at_call 163; have _t := tok; refine (sizeOf_sz false (nat xs) _ _ (HV2.out.old (HG2.out.drewN 1)) HGX.out.1.1 (by have := HGX.out.2; omega)).mono ?_; rintro e w3 ⟨rfl, g3⟩; have G3 : Hid (Old w2 w3) := Old.trans ((Old.refl _).drewN 1) g3; clear tok g3)
            | (go_at_call 163; refine (sizeOf_sz false (nat ys) _ _ (HU2.out.old (Old.trans HG2.out G3.out)) HGY.out.1.1 (by have := HGY.out.2; omega)).mono ?_; rintro e w4 ⟨rfl, g4⟩; have G4 : Hid (Old w2 w4) := Old.trans G3.out g4; clear g4)
            | (go_at_call 162; refine (cmp_sz (val (nat xs)) (val (nat ys)) _ (by rw [cnt_nrm HGX.out.1.1]; have := HGX.out.2; omega) (by rw [cnt_nrm HGY.out.1.1]; have := HGY.out.2; omega)).mono ?_; rintro e w5 ⟨rfl, g5⟩; have G5 : Hid (Old w2 w5) := Old.trans G4.out g5; clear g5))
          all_goals
            go_wp2_with fail
            go_ret
            exact ⟨congrArg (fun z => Ending.returned (.int .i64 z)) HE.out, Old.trans HG2.out G5.out⟩
    · have hR2 : cmpW n m xs ys = 0 := by unfold cmpW; rw [if_neg (fun h => hgb h.2)]
      rw [hR2]
      have cgb := fun W (h : Row W (.slice c1 ys.length cap1) ys) => good_impl m ys _ W h lb
      rw [decide_eq_false hgb] at cgb
      clear hga hgb hR2
      go_enter Tryz.func148, Tryz.ntmps148
      go_wp2_with fail
      refine (cga _ (HV.out.old (HA.out))).mono ?_
      rintro e w1 ⟨rfl, g1⟩
      have SB1 : Hid (StW w1 (w.heap.size + 1) (.bool m) (.slice c1 ys.length cap1) 57) := SB0.out.old g1
      have HG1 : Hid (Old w w1) := Old.trans HA.out g1
      have b0 := SB1.out.c0
      have b1 := SB1.out.c1
      clear g1 HA
      go_wp2_with fail
      refine (cgb _ (HU.out.old HG1.out)).mono ?_
      rintro e w2 ⟨rfl, g2⟩
      have HG2 : Hid (Old w w2) := Old.trans HG1.out g2
      clear g2
      go_wp2_with fail
      go_ret
      exact ⟨rfl, HG2.out⟩
  · have hR2 : cmpW n m xs ys = 0 := by unfold cmpW; rw [if_neg (fun h => hga h.1)]
    rw [hR2]
    have cga := fun W (h : Row W (.slice c0 xs.length cap0) xs) => good_impl n xs _ W h la
    rw [decide_eq_false hga] at cga
    clear hga hR2
    go_enter Tryz.func148, Tryz.ntmps148
    go_wp2_with fail
    refine (cga _ (HV.out.old HA.out)).mono ?_
    rintro e w1 ⟨rfl, g1⟩
    have HG1 : Hid (Old w w1) := Old.trans HA.out g1
    clear g1
    go_wp2_with fail
    go_ret
    exact ⟨rfl, HG1.out⟩
end Go.Proofs.YtanijpekdnkicaaGreatDoor
