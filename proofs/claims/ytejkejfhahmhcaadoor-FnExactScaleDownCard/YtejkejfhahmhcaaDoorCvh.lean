/- Proved: contracts of slices.ContainsFunc by each of the two closures, of haveCommon and of the model's l6Has. -/
import Derived.Test.YtejkejfhahmhcaaDoorKG
import Derived.Test.YtejkejfhahmhcaaDoorRsb
namespace Go.Proofs.YtejkejfhahmhcaaDoor
open Go.ChangeShapes Go.WideShapes Go.ChangeAt Go.RowKit
set_option linter.unusedVariables false
set_option linter.unusedSimpArgs false
theorem any_at (xs : List Int) (P : Int → Bool) (k : Nat) (hk : k < xs.length) (h : P (xs.getD k 0) = true) : xs.any P = true :=
  List.any_eq_true.2 ⟨xs.getD k 0, by simp [List.getD, hk], h⟩
theorem any_none (xs : List Int) (P : Int → Bool) (h : ∀ j, j < xs.length → P (xs.getD j 0) = false) : xs.any P = false := by
  rw [List.any_eq_false]
  intro x hx
  obtain ⟨j, hj, e⟩ := List.getElem_of_mem hx
  have := h j hj
  simp [List.getD, hj, e] at this
  simp [this]
set_option maxRecDepth 100000 in
set_option maxHeartbeats 2000000 in
theorem idxH_any (P : Int → Bool) (p0 : Nat) (xs : List Int) (v : Value) (w : World) (hv : Row w v xs) (hl : xs.length ≤ 9223372036854775807) (hm : ∀ x ∈ xs, ∀ W, Old w W → Calls Tryd.prog 112 #[.int .i64 x, .pointer (some ⟨p0, 0, none⟩)] W fun e w' => e = .returned (.bool (P x)) ∧ Old W w') :
    Calls Tryd.prog 127 #[v, .func (.func 112) #[] #[.pointer (some ⟨p0, 0, none⟩)]] w fun e w' => (∃ z, e = .returned (.int .i64 z) ∧ decide (0 ≤ z) = xs.any P) ∧ Old w w' := by
  have HM : Hid (∀ x ∈ xs, ∀ W, Old w W → Calls Tryd.prog 112 #[.int .i64 x, .pointer (some ⟨p0, 0, none⟩)] W fun e w' => e = .returned (.bool (P x)) ∧ Old W w') := hm
  rcases hv with ⟨a, cap, rfl, rfl⟩ | ⟨b, o, cap, rfl, hb, h0, hc⟩
  · clear hm
    go_enter Tryd.func127, Tryd.ntmps127
    go_wp2_with fail
    go_loopw [8] (fun i W => i = .int .i64 0 ∧ W = w) (fun i _ => 0)
    case atStart => exact ⟨rfl, rfl⟩
    case round =>
      obtain ⟨rfl, rfl⟩ := hrel
      go_wp2_with fail
      go_ret
      exact ⟨⟨_, rfl, rfl⟩, Old.refl _⟩
  · have HC : Hid (∀ j, j < xs.length → w.cell? ⟨b, o + j, none⟩ = some (.int .i64 (xs.getD j 0))) := hc
    clear hm hc
    go_enter Tryd.func127, Tryd.ntmps127
    go_wp2_with fail
    go_loopw [8] (fun i W => ∃ k : Nat, k ≤ xs.length ∧ i = .int .i64 k ∧ Hid (∀ j, j < k → P (xs.getD j 0) = false) ∧ Hid (Old w W)) (fun i _ => xs.length - (intOf i).toNat)
    case atStart => exact ⟨0, by omega, rfl, fun j hj => by omega, Old.refl _⟩
    case round =>
      obtain ⟨k, hk, rfl, H1, HG⟩ := hrel
      by_cases hlt : k < xs.length
      · have d1 : decide ((k : Int) < (xs.length : Int)) = true := by simp; omega
        have i1 : (k : Int) < (xs.length : Int) := by omega
        have c1 : wr.cell? ⟨b, o + k, none⟩ = some (.int .i64 (xs.getD k 0)) := (HG.out.cell (p := ⟨b, o + k, none⟩) hb).trans (HC.out k hlt)
        have cm := HM.out (xs.getD k 0) (by simp [List.getD, hlt])
        cases hx : P (xs.getD k 0)
        · rw [hx] at cm
          have H2 : Hid (∀ j, j < k + 1 → P (xs.getD j 0) = false) := fun j hj => by
            rcases Nat.lt_or_ge j k with h | h
            · exact H1.out j h
            · obtain rfl : j = k := by omega
              exact hx
          clear H1 hx
          generalize xs.getD k 0 = x at *
          go_wp2_with fail
          refine (cm _ HG.out).mono ?_
          rintro e w2 ⟨rfl, g2⟩
          have HG2 : Hid (Old w w2) := Old.trans HG.out g2
          clear g2
          go_wp2_with fail
          exact ⟨⟨k + 1, by omega, by go_num, H2, HG2⟩, by simp [intOf]; omega⟩
        · rw [hx] at cm
          have H2 : Hid (decide (0 ≤ (k : Int)) = xs.any P) := by
            show _ = _
            rw [any_at xs P k hlt hx]
            simp
          clear H1 hx
          generalize xs.getD k 0 = x at *
          go_wp2_with fail
          refine (cm _ HG.out).mono ?_
          rintro e w2 ⟨rfl, g2⟩
          have HG2 : Hid (Old w w2) := Old.trans HG.out g2
          clear g2
          go_wp2_with fail
          go_ret
          exact ⟨⟨_, rfl, H2.out⟩, HG2.out⟩
      · have d1 : decide ((k : Int) < (xs.length : Int)) = false := by simp; omega
        have H2 : Hid (decide (0 ≤ (-1 : Int)) = xs.any P) := by
          show _ = _
          rw [any_none xs P (fun j hj => H1.out j (by omega))]
          rfl
        clear H1
        go_wp2_with fail
        go_ret
        exact ⟨⟨_, rfl, H2.out⟩, HG.out⟩
theorem cfH_any (P : Int → Bool) (p0 : Nat) (xs : List Int) (v : Value) (w : World) (hv : Row w v xs) (hl : xs.length ≤ 9223372036854775807) (hm : ∀ x ∈ xs, ∀ W, Old w W → Calls Tryd.prog 112 #[.int .i64 x, .pointer (some ⟨p0, 0, none⟩)] W fun e w' => e = .returned (.bool (P x)) ∧ Old W w') :
    Calls Tryd.prog 111 #[v, .func (.func 112) #[] #[.pointer (some ⟨p0, 0, none⟩)]] w fun e w' => e = .returned (.bool (xs.any P)) ∧ Old w w' := by
  have c := idxH_any P p0 xs v w hv hl hm
  obtain ⟨va, vc, rfl⟩ := hv.slice
  generalize xs.any P = B at *
  clear hv hm
  go_enter Tryd.func111, Tryd.ntmps111
  go_wp2_with fail
  refine c.mono ?_
  rintro e w1 ⟨⟨z, rfl, hz⟩, g1⟩
  have HG : Hid (Old w w1) := g1
  clear g1
  have HZ : Hid (decide (0 ≤ z) = B) := hz
  clear hz
  go_wp2_with fail
  go_ret
  exact ⟨by rw [← HZ.out]; rfl, HG.out⟩
set_option maxRecDepth 100000 in
set_option maxHeartbeats 2000000 in
theorem idxS_any (P : Int → Bool) (p0 p1 : Nat) (xs : List Int) (v : Value) (w : World) (hv : Row w v xs) (hl : xs.length ≤ 9223372036854775807) (hm : ∀ x ∈ xs, ∀ W, Old w W → Calls Tryd.prog 113 #[.int .i64 x, .pointer (some ⟨p0, 0, none⟩), .pointer (some ⟨p1, 0, none⟩)] W fun e w' => e = .returned (.bool (P x)) ∧ Old W w') :
    Calls Tryd.prog 127 #[v, .func (.func 113) #[] #[.pointer (some ⟨p0, 0, none⟩), .pointer (some ⟨p1, 0, none⟩)]] w fun e w' => (∃ z, e = .returned (.int .i64 z) ∧ decide (0 ≤ z) = xs.any P) ∧ Old w w' := by
  have HM : Hid (∀ x ∈ xs, ∀ W, Old w W → Calls Tryd.prog 113 #[.int .i64 x, .pointer (some ⟨p0, 0, none⟩), .pointer (some ⟨p1, 0, none⟩)] W fun e w' => e = .returned (.bool (P x)) ∧ Old W w') := hm
  rcases hv with ⟨a, cap, rfl, rfl⟩ | ⟨b, o, cap, rfl, hb, h0, hc⟩
  · clear hm
    go_enter Tryd.func127, Tryd.ntmps127
    go_wp2_with fail
    go_loopw [8] (fun i W => i = .int .i64 0 ∧ W = w) (fun i _ => 0)
    case atStart => exact ⟨rfl, rfl⟩
    case round =>
      obtain ⟨rfl, rfl⟩ := hrel
      go_wp2_with fail
      go_ret
      exact ⟨⟨_, rfl, rfl⟩, Old.refl _⟩
  · have HC : Hid (∀ j, j < xs.length → w.cell? ⟨b, o + j, none⟩ = some (.int .i64 (xs.getD j 0))) := hc
    clear hm hc
    go_enter Tryd.func127, Tryd.ntmps127
    go_wp2_with fail
    go_loopw [8] (fun i W => ∃ k : Nat, k ≤ xs.length ∧ i = .int .i64 k ∧ Hid (∀ j, j < k → P (xs.getD j 0) = false) ∧ Hid (Old w W)) (fun i _ => xs.length - (intOf i).toNat)
    case atStart => exact ⟨0, by omega, rfl, fun j hj => by omega, Old.refl _⟩
    case round =>
      obtain ⟨k, hk, rfl, H1, HG⟩ := hrel
      by_cases hlt : k < xs.length
      · have d1 : decide ((k : Int) < (xs.length : Int)) = true := by simp; omega
        have i1 : (k : Int) < (xs.length : Int) := by omega
        have c1 : wr.cell? ⟨b, o + k, none⟩ = some (.int .i64 (xs.getD k 0)) := (HG.out.cell (p := ⟨b, o + k, none⟩) hb).trans (HC.out k hlt)
        have cm := HM.out (xs.getD k 0) (by simp [List.getD, hlt])
        cases hx : P (xs.getD k 0)
        · rw [hx] at cm
          have H2 : Hid (∀ j, j < k + 1 → P (xs.getD j 0) = false) := fun j hj => by
            rcases Nat.lt_or_ge j k with h | h
            · exact H1.out j h
            · obtain rfl : j = k := by omega
              exact hx
          clear H1 hx
          generalize xs.getD k 0 = x at *
          go_wp2_with fail
          refine (cm _ HG.out).mono ?_
          rintro e w2 ⟨rfl, g2⟩
          have HG2 : Hid (Old w w2) := Old.trans HG.out g2
          clear g2
          go_wp2_with fail
          exact ⟨⟨k + 1, by omega, by go_num, H2, HG2⟩, by simp [intOf]; omega⟩
        · rw [hx] at cm
          have H2 : Hid (decide (0 ≤ (k : Int)) = xs.any P) := by
            show _ = _
            rw [any_at xs P k hlt hx]
            simp
          clear H1 hx
          generalize xs.getD k 0 = x at *
          go_wp2_with fail
          refine (cm _ HG.out).mono ?_
          rintro e w2 ⟨rfl, g2⟩
          have HG2 : Hid (Old w w2) := Old.trans HG.out g2
          clear g2
          go_wp2_with fail
          go_ret
          exact ⟨⟨_, rfl, H2.out⟩, HG2.out⟩
      · have d1 : decide ((k : Int) < (xs.length : Int)) = false := by simp; omega
        have H2 : Hid (decide (0 ≤ (-1 : Int)) = xs.any P) := by
          show _ = _
          rw [any_none xs P (fun j hj => H1.out j (by omega))]
          rfl
        clear H1
        go_wp2_with fail
        go_ret
        exact ⟨⟨_, rfl, H2.out⟩, HG.out⟩
theorem cfS_any (P : Int → Bool) (p0 p1 : Nat) (xs : List Int) (v : Value) (w : World) (hv : Row w v xs) (hl : xs.length ≤ 9223372036854775807) (hm : ∀ x ∈ xs, ∀ W, Old w W → Calls Tryd.prog 113 #[.int .i64 x, .pointer (some ⟨p0, 0, none⟩), .pointer (some ⟨p1, 0, none⟩)] W fun e w' => e = .returned (.bool (P x)) ∧ Old W w') :
    Calls Tryd.prog 111 #[v, .func (.func 113) #[] #[.pointer (some ⟨p0, 0, none⟩), .pointer (some ⟨p1, 0, none⟩)]] w fun e w' => e = .returned (.bool (xs.any P)) ∧ Old w w' := by
  have c := idxS_any P p0 p1 xs v w hv hl hm
  obtain ⟨va, vc, rfl⟩ := hv.slice
  generalize xs.any P = B at *
  clear hv hm
  go_enter Tryd.func111, Tryd.ntmps111
  go_wp2_with fail
  refine c.mono ?_
  rintro e w1 ⟨⟨z, rfl, hz⟩, g1⟩
  have HG : Hid (Old w w1) := g1
  clear g1
  have HZ : Hid (decide (0 ≤ z) = B) := hz
  clear hz
  go_wp2_with fail
  go_ret
  exact ⟨by rw [← HZ.out]; rfl, HG.out⟩
set_option maxHeartbeats 2000000 in
theorem has_any (xs : List Int) (p : Int) (v : Value) (w : World) (hv : Row w v xs) (hl : xs.length ≤ 9223372036854775807) :
    Calls Tryd.prog 58 #[v, .int .i64 p] w fun e w' => e = .returned (.bool (xs.contains p)) ∧ Old w w' := by
  rcases hv with ⟨a, cap, rfl, rfl⟩ | ⟨b, o, cap, rfl, hb, h0, hc⟩
  · go_enter Tryd.func58, Tryd.ntmps58
    go_wp2_with fail
    go_loopw [9] (fun i W => i = .int .i64 0 ∧ W = w) (fun i _ => 0)
    case atStart => exact ⟨rfl, rfl⟩
    case round =>
      obtain ⟨rfl, rfl⟩ := hrel
      go_wp2_with fail
      go_ret
      exact ⟨rfl, Old.refl _⟩
  · have HC : Hid (∀ j, j < xs.length → w.cell? ⟨b, o + j, none⟩ = some (.int .i64 (xs.getD j 0))) := hc
    clear hc
    go_enter Tryd.func58, Tryd.ntmps58
    go_wp2_with fail
    go_loopw [9] (fun i W => ∃ k : Nat, k ≤ xs.length ∧ i = .int .i64 k ∧ Hid (∀ j, j < k → (p == xs.getD j 0) = false) ∧ Hid (Old w W)) (fun i _ => xs.length - (intOf i).toNat)
    case atStart => exact ⟨0, by omega, rfl, fun j hj => by omega, Old.refl _⟩
    case round =>
      obtain ⟨k, hk, rfl, H1, HG⟩ := hrel
      by_cases hlt : k < xs.length
      · have d1 : decide ((k : Int) < (xs.length : Int)) = true := by simp; omega
        have i1 : (k : Int) < (xs.length : Int) := by omega
        have c1 : wr.cell? ⟨b, o + k, none⟩ = some (.int .i64 (xs.getD k 0)) := (HG.out.cell (p := ⟨b, o + k, none⟩) hb).trans (HC.out k hlt)
        have hs : (xs.getD k 0 == p) = (p == xs.getD k 0) := BEq.comm
        cases hx : (p == xs.getD k 0)
        · rw [hx] at hs
          have H2 : Hid (∀ j, j < k + 1 → (p == xs.getD j 0) = false) := fun j hj => by
            rcases Nat.lt_or_ge j k with h | h
            · exact H1.out j h
            · obtain rfl : j = k := by omega
              exact hx
          clear H1 hx
          generalize xs.getD k 0 = x at *
          go_wp2_with fail
          exact ⟨⟨k + 1, by omega, by go_num, H2, HG⟩, by simp [intOf]; omega⟩
        · rw [hx] at hs
          have H2 : Hid (true = xs.contains p) := by
            show _ = _
            rw [has_at xs p k hlt hx]
          clear H1 hx
          generalize xs.getD k 0 = x at *
          go_wp2_with fail
          go_ret
          exact ⟨ret_bb H2.out, HG.out⟩
      · have d1 : decide ((k : Int) < (xs.length : Int)) = false := by simp; omega
        have H2 : Hid (false = xs.contains p) := by
          show _ = _
          rw [has_none xs p (fun j hj => H1.out j (by omega))]
        clear H1
        go_wp2_with fail
        go_ret
        exact ⟨ret_bb H2.out, HG.out⟩
theorem common1_any (ts : List Int) (x : Int) (g : Nat) (u : Value) (w : World) (hu : Row w u ts) (hg : w.cell? ⟨g, 0, none⟩ = some u) (hl : ts.length ≤ 9223372036854775807) :
    Calls Tryd.prog 112 #[.int .i64 x, .pointer (some ⟨g, 0, none⟩)] w fun e w' => e = .returned (.bool (ts.contains x)) ∧ Old w w' := by
  have c := contains_any ts x u w hu hl
  generalize ts.contains x = B at *
  obtain ⟨ua, uc, rfl⟩ := hu.slice
  clear hu
  go_enter Tryd.func112, Tryd.ntmps112
  go_wp2_with fail
  refine c.mono ?_
  rintro e w1 ⟨rfl, g1⟩
  have HG : Hid (Old w w1) := g1
  clear g1
  go_wp2_with fail
  go_ret
  exact ⟨rfl, HG.out⟩
theorem common_any (xs ts : List Int) (v u : Value) (w : World) (hv : Row w v xs) (hu : Row w u ts) (hl : xs.length ≤ 9223372036854775807) (hl2 : ts.length ≤ 9223372036854775807) :
    Calls Tryd.prog 78 #[v, u] w fun e w' => e = .returned (.bool (xs.any (fun x => ts.contains x))) ∧ Old w w' := by
  have hgl : ∀ W, Old (w.alloc (.cells #[u] 22)) W → W.cell? ⟨w.heap.size, 0, none⟩ = some u := fun W q => (q.cell (p := ⟨w.heap.size, 0, none⟩) (by simp)).trans (cell_at _ _ _ _ _ rfl)
  have HA : Hid (Old w (w.alloc (.cells #[u] 22))) := (Old.refl w).alloc _
  have c := cfH_any (fun x => ts.contains x) w.heap.size xs v (w.alloc (.cells #[u] 22)) (hv.old HA.out) hl (fun x hx W g => common1_any ts x w.heap.size u W (hu.old (Old.trans HA.out g)) (hgl W g) hl2)
  have hmf : ∀ (fn : Fn) (first cap : Array Value) (w : World), (Instr.makeFunc fn first cap).run Tryd.prog w = .ok (.func fn first cap) w := fun _ _ _ _ => rfl
  generalize xs.any (fun x => ts.contains x) = B at *
  obtain ⟨va, vc, rfl⟩ := hv.slice
  obtain ⟨ua, uc, rfl⟩ := hu.slice
  clear hv hu hgl
  go_enter Tryd.func78, Tryd.ntmps78
  go_wp2_with fail
  refine c.mono ?_
  rintro e w1 ⟨rfl, g1⟩
  have HG : Hid (Old w w1) := Old.trans HA.out g1
  clear g1
  go_wp2_with fail
  go_ret
  exact ⟨rfl, HG.out⟩
end Go.Proofs.YtejkejfhahmhcaaDoor
