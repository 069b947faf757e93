/- Proved: several texts in one: what each proves is said ahead of it. -/
import Derived.Test.YtakleianimcmdaaGreatDoorA04
import Derived.Test.YtakleianimcmdaaGreatDoorMlr
import Derived.Test.YtakleianimcmdaaGreatDoorA28
import Derived.Test.YtakleianimcmdaaGreatDoorA12
import Derived.Test.YtakleianimcmdaaGreatDoorA18
import Derived.Maps.AppendAt
import Derived.Test.YtakleianimcmdaaGreatDoorA42
import Derived.Test.YtakleianimcmdaaGreatDoorA30
/- Proved: the drawn region of the model's l5Ahead and that of its l5Back: a row is transformed and appended. -/
namespace Go.Proofs.YtakleianimcmdaaGreatDoor
open Go.ChangeShapes Go.WideShapes Go.ChangeAt Go.RowKit
set_option linter.unusedVariables false
set_option linter.unusedSimpArgs false
theorem own_fit {W : World} {base : Nat} {v : Value} {zs : List Int} (h : Own W base v zs) : ∃ ra rc, v = .slice ra zs.length rc ∧ zs.length ≤ rc := by
  rcases h.2 with ⟨e, hn⟩ | ⟨_, _, _, e, _, _, hn, _⟩
  · exact ⟨none, 0, by rw [e, hn], by omega⟩
  · exact ⟨_, _, e, hn⟩
end Go.Proofs.YtakleianimcmdaaGreatDoor
/- Proved: rows in memory of their own, as the model copies them. -/
namespace Go.Proofs.YtakleianimcmdaaGreatDoor
open Go.ChangeShapes Go.WideShapes Go.ChangeAt Go.RowKit
open M1
set_option linter.unusedVariables false
set_option linter.unusedSimpArgs false
theorem heap_newO9 (w : World) (o : Obj) : (w.alloc o).heap[w.heap.size]? = some o := by
  unfold World.alloc
  simp
theorem own_none0O9 (w : World) (base : Nat) (h : base ≤ w.heap.size) : Own (w.alloc (.cells #[] 3)) base (.slice (some ⟨w.heap.size, 0, none⟩) 0 0) [] := by
  refine ⟨rfl, .inr ⟨w.heap.size, 0, #[], rfl, h, ?_, Nat.le_refl _, ?_, ?_, ?_⟩⟩
  · exact heap_newO9 w _
  all_goals simp
theorem own_app0O9 {w : World} {base : Nat} {v : Value} {zs : List Int} (h : w.ownsRow base 3 1 v (0 + zs.length) ([] ++ zs.map (Value.int .i64))) : Own w base v zs := by
  rw [Nat.zero_add, List.nil_append] at h
  exact h
set_option maxRecDepth 100000 in
set_option maxHeartbeats 8000000 in
theorem spec_l9Own (zss : List (List Int)) (u1 : Value) (w : World) (h1 : RowS w u1 zss) (hps : 1 ≤ zss.length ∧ zss.length ≤ 6) (hr : ∀ k, k < zss.length → 1 ≤ (zss.getD k []).length ∧ (zss.getD k []).length ≤ 16) :
    Calls Tryz.prog 61 #[u1] w fun e w' => ∃ v', e = .returned v' ∧ Old w w' ∧ OwS zss w' w.heap.size w'.heap.size v' := by
  obtain ⟨i0, hi, hz0, hz1, hz2⟩ := info_parts Tryz.infoInt
  obtain ⟨j0, ji, jz0, jz1, jz2⟩ := info_parts Tryz.infoInts
  have HSM : Hid (∀ k, k < zss.length → 1 ≤ (zss.getD k []).length ∧ (zss.getD k []).length ≤ 16) := hr
  rcases h1 with ⟨a, cap, e, e'⟩ | ⟨b1, o1, cap1, us1, e_1, hb1, h01, hc1⟩
  · subst e'
    simp at hps
  subst e_1
  have HC1 : Hid (∀ j, j < zss.length → w.cell? ⟨b1, o1 + j, none⟩ = some (us1 j) ∧ Row w (us1 j) (zss.getD j [])) := hc1
  have HZ : Hid (∀ k, k < zss.length → zss.take (k + 1) = zss.take k ++ [zss.getD k []]) := fun k hk => take_succL _ _ hk
  clear hc1 hr
  go_enter Tryz.func61, Tryz.ntmps61
  go_wp2_with fail
  go_loopw [3, 8] (fun x i W => ∃ (k : Nat) (a : Option Addr) (cap : Nat), k ≤ zss.length ∧ i = .int .i64 k ∧ x = .slice a k cap ∧ Hid (OwS (zss.take k) W w.heap.size W.heap.size (.slice a k cap)) ∧ Hid (Old w W)) (fun _ i _ => zss.length - (intOf i).toNat)
  case atStart => exact ⟨0, none, 0, by omega, rfl, rfl, ⟨Nat.le_refl _, Or.inl ⟨rfl, by simp⟩⟩, Old.refl _⟩
  case round =>
    obtain ⟨k, a, cap, hk, rfl, rfl, HO, HG⟩ := hrel
    have hsr := HG.out.size
    by_cases hlt : k < zss.length
    · have d1 : decide ((k : Int) < (zss.length : Int)) = true := by simp; omega
      obtain ⟨p1, p2⟩ := HC1.out k hlt
      obtain ⟨xa, ya, f1⟩ := p2.slice
      rw [f1] at p1 p2
      have c1 : wr.cell? ⟨b1, o1 + k, none⟩ = some (.slice xa (zss.getD k []).length ya) := (HG.out.cell (p := ⟨b1, o1 + k, none⟩) hb1).trans p1
      have R1 : Hid (Row wr (.slice xa (zss.getD k []).length ya) (zss.getD k [])) := p2.old HG.out
      have hbr1 : b1 < wr.heap.size := by omega
      have HZK : Hid (zss.take (k + 1) = zss.take k ++ [zss.getD k []]) := HZ.out k hlt
      clear p1 p2 f1
      obtain ⟨m2, m3⟩ := HSM.out k hlt
      generalize zss.getD k [] = zs at *
      have HEMB : Hid (∀ (W : World) (ra : Option Addr) (rc : Nat), Old wr W → Own W wr.heap.size (.slice ra zs.length rc) zs → zs.length ≤ rc → ∃ vs, W.ownsRow w.heap.size 22 1 (.slice a k cap) k vs ∧ (∀ v' w', w'.ownsRow w.heap.size 22 1 v' (k + 1) (vs ++ [.slice ra zs.length rc]) → W.grownBy w' (Value.slice a k cap).ownBlock → (v'.ownBlock = (Value.slice a k cap).ownBlock ∨ v'.ownBlock = some W.heap.size) → OwS (zss.take (k + 1)) w' w.heap.size w'.heap.size v' ∧ Old w w')) := fun W ra rc g o hc => by
        have hl : (zss.take k).length = k := by rw [List.length_take]; omega
        have := OwS.app HO.out hsr g o hc
        rw [hl] at this
        rw [HZK.out]
        obtain ⟨vs, t1, t2⟩ := this
        refine ⟨vs, t1, fun v' w' q1 q2 q3 => ⟨t2 v' w' q1 q2 q3, ?_⟩⟩
        refine Below.grown (Old.trans HG.out g) q2 (Old.trans HG.out g).size (fun p hp => ?_)
        obtain ⟨hh, ⟨e, e2⟩ | ⟨p', cap', vs, e, hcap, hl, hhi, _⟩⟩ := HO.out
        · rw [e] at hp
          cases hp
        · rw [e] at hp
          simp only [Value.ownBlock, Option.some.injEq] at hp
          omega
      have hlt' : (k : Int) < (zss.length : Int) := by omega
      rcases R1.out with ⟨_, _, e, e'⟩ | ⟨b3, o3, cap3, e, hb3, h03, hc3⟩
      · subst e'
        simp at m2
      simp only [Value.slice.injEq, true_and] at e
      obtain ⟨rfl, rfl⟩ := e
      obtain ⟨w5, hw5⟩ : ∃ w5, w5 = wr.alloc (.cells #[] 3) := ⟨_, rfl⟩
      have HO6 : Hid (Own w5 wr.heap.size (.slice (some ⟨wr.heap.size, 0, none⟩) 0 0) []) := by
        rw [hw5]
        exact own_none0O9 wr _ (Nat.le_refl _)
      have HG45 : Hid (Old wr w5) := by rw [hw5]; exact (Old.refl wr).alloc _
      have HN3 : Hid (∀ j u, (zs.map (Value.int .i64))[j]? = some u → w5.cell? ((⟨b3, o3, none⟩ : Addr).add j) = some u) := fun j u hj => by
        have hjl : j < zs.length := by
          have := (List.getElem?_eq_some_iff.1 hj).1
          simpa using this
        have e1 : u = .int .i64 (zs.getD j 0) := by
          simp [List.getElem?_map, hjl] at hj
          rw [← hj]
          simp [List.getD, hjl]
        have e2 : (⟨b3, o3, none⟩ : Addr).add j = ⟨b3, o3 + j, none⟩ := by
          unfold Addr.add
          split
          · rename_i h; simp [h]
          · rfl
        rw [e2, e1]
        exact (HG45.out.cell (p := ⟨b3, o3 + j, none⟩) hb3).trans (hc3 j hjl)
      clear hc3 h03
      go_wp2_with (first
        | (at_builtin; rw [← hw5]; (refine wpList_append_own _ rfl _ _ 22 rfl wr.heap.size 3 i0 (.int .i64 0) 1 8 Tryz.underlying22 hi hz0 hz1 hz2 rfl (by decide) _ 0 [] rfl HO6.out ⟨b3, o3, none⟩ zs.length ya (zs.map (Value.int .i64)) rfl (by simp) HN3.out (by simp [Value.oneCell']) (by unfold maxLen; omega) (by omega) HG45.out.size ?_); intro v5 w6 o5 g5 x5; have O5 : Hid (Own w6 wr.heap.size v5 zs) := own_app0O9 o5; have G5 : Hid (Old wr w6) := Below.grown HG45.out g5 HG45.out.size (fun j hj => (HO6.out.lt j hj).1); obtain ⟨ra, rc, e7, hc7⟩ := own_fit O5.out; subst e7; obtain ⟨vs, ov, hem⟩ := HEMB.out (w6.alloc (.cells #[.slice ra zs.length rc] 22)) ra rc (G5.out.alloc _) (O5.out.alloc _) hc7; have OV : Hid ((w6.alloc (.cells #[.slice ra zs.length rc] 22)).ownsRow w.heap.size 22 1 (.slice a k cap) k vs) := ov; have HEM : Hid (∀ v' w', w'.ownsRow w.heap.size 22 1 v' (k + 1) (vs ++ [.slice ra zs.length rc]) → (w6.alloc (.cells #[.slice ra zs.length rc] 22)).grownBy w' (Value.slice a k cap).ownBlock → (v'.ownBlock = (Value.slice a k cap).ownBlock ∨ v'.ownBlock = some (w6.alloc (.cells #[.slice ra zs.length rc] 22)).heap.size) → OwS (zss.take (k + 1)) w' w.heap.size w'.heap.size v' ∧ Old w w') := hem; have hs6 := G5.out.size; clear o5 g5 x5 ov hem)
        | (at_builtin; refine wpList_append_own_at _ rfl _ _ 93 rfl w.heap.size 22 j0 (.slice none 0 0) 1 24 Tryz.underlying93 ji jz0 jz1 jz2 rfl (by decide) _ _ _ rfl OV.out ⟨w6.heap.size, 0, none⟩ 1 1 [.slice ra zs.length rc] rfl rfl (one_cell _ _ _) (one_sl _ _ _) (by unfold maxLen; omega) (by omega) (by simp; omega) ?_; intro v7 w7 o7 g7 x7 l7; have O7 : Hid (OwS (zss.take (k + 1)) w7 w.heap.size w7.heap.size v7 ∧ Old w w7) := HEM.out v7 w7 o7 g7 l7; clear o7 g7 x7 l7))
      have HO7 : Hid (OwS (zss.take (k + 1)) w7 w.heap.size w7.heap.size v7) := O7.out.1
      have HG7 : Hid (Old w w7) := O7.out.2
      have hl1 : (zss.take (k + 1)).length = k + 1 := by rw [List.length_take]; omega
      obtain ⟨a8, cap8, e8⟩ := HO7.out.slice
      subst e8
      rw [hl1] at HO7 ⊢
      exact ⟨⟨k + 1, _, _, by omega, by go_num, rfl, HO7, HG7⟩, by simp [intOf]; omega⟩
    · have d1 : decide ((k : Int) < (zss.length : Int)) = false := by simp; omega
      obtain rfl : k = zss.length := by omega
      have HF : Hid (OwS zss wr w.heap.size wr.heap.size (.slice a zss.length cap)) := by
        have := HO.out
        rw [List.take_of_length_le (by omega)] at this
        exact this
      go_wp2_with fail
      go_ret
      exact ⟨_, rfl, HG.out, HF.out⟩
end Go.Proofs.YtakleianimcmdaaGreatDoor
/- Proved: the contract of the model's AddCiphers. -/
namespace Go.Proofs.YtakleianimcmdaaGreatDoor
open Go.ChangeShapes Go.WideShapes Go.ChangeAt Go.RowKit
open M1
set_option linter.unusedVariables false
set_option linter.unusedSimpArgs false
set_option maxRecDepth 100000 in
set_option maxHeartbeats 4000000 in
theorem spec_AddCiphers_no (N T E : Int) (a3 : Option Addr) (l3 c3 : Nat) (a1 : Option Addr) (l1 c1 : Nat) (a2 : Option Addr) (l2 c2 : Nat) (B1 B2 : Bool) (w : World) (hB : (B1 && B2) = false)
    (KG : ∀ W, Old w W → Calls Tryz.prog 59 #[.agg #[.int .i64 N, .int .i64 T, .int .i64 E, .slice a3 l3 c3], .agg #[.slice a1 l1 c1]] W fun e w' => e = .returned (.bool B1) ∧ Old W w')
    (KP : B1 = true → ∀ W, Old w W → Calls Tryz.prog 60 #[.agg #[.int .i64 N, .int .i64 T, .int .i64 E, .slice a3 l3 c3], .agg #[.slice a2 l2 c2]] W fun e w' => e = .returned (.bool B2) ∧ Old W w') :
    Calls Tryz.prog 20 #[.agg #[.int .i64 N, .int .i64 T, .int .i64 E, .slice a3 l3 c3], .agg #[.slice a1 l1 c1], .agg #[.slice a2 l2 c2]] w fun e w' => ∃ r0, e = .returned (.tuple #[.agg r0, .bool false]) ∧ Old w w' ∧ XC [] w' w.heap.size w'.heap.size r0 := by
  have HA : Hid (Old w ((((w.alloc (.cells #[.int .i64 N, .int .i64 T, .int .i64 E, .slice a3 l3 c3] 28)).alloc (.cells #[.slice a1 l1 c1] 42)).alloc (.cells #[.slice a2 l2 c2] 42)).alloc (.cells #[.slice none 0 0] 42))) := ((((Old.refl w).alloc _).alloc _).alloc _).alloc _
  have BP : Hid (Bk ((((w.alloc (.cells #[.int .i64 N, .int .i64 T, .int .i64 E, .slice a3 l3 c3] 28)).alloc (.cells #[.slice a1 l1 c1] 42)).alloc (.cells #[.slice a2 l2 c2] 42)).alloc (.cells #[.slice none 0 0] 42)) w.heap.size #[.int .i64 N, .int .i64 T, .int .i64 E, .slice a3 l3 c3] 28) := (((Bk.new' w _ _ rfl).alloc _).alloc _).alloc _
  have BB : Hid (Bk ((((w.alloc (.cells #[.int .i64 N, .int .i64 T, .int .i64 E, .slice a3 l3 c3] 28)).alloc (.cells #[.slice a1 l1 c1] 42)).alloc (.cells #[.slice a2 l2 c2] 42)).alloc (.cells #[.slice none 0 0] 42)) (w.heap.size + 1 + 1) #[.slice a2 l2 c2] 42) := (Bk.new' _ _ _ (by simp)).alloc _
  have BR : Hid (Bk ((((w.alloc (.cells #[.int .i64 N, .int .i64 T, .int .i64 E, .slice a3 l3 c3] 28)).alloc (.cells #[.slice a1 l1 c1] 42)).alloc (.cells #[.slice a2 l2 c2] 42)).alloc (.cells #[.slice none 0 0] 42)) (w.heap.size + 1 + 1 + 1) #[.slice none 0 0] 42) := Bk.new' _ _ _ (by simp)
  cases B1
  · go_enter Tryz.func20, Tryz.ntmps20
    go_wp2_with fail
    refine (KG _ HA.out).mono ?_
    rintro e w1 ⟨rfl, g1⟩
    have HG1 : Hid (Old w w1) := Old.trans HA.out g1
    have B1 : Hid (Bk w1 (w.heap.size + 1 + 1 + 1) #[.slice none 0 0] 42) := BR.out.old g1
    have z0 := B1.out.c (i := 0) rfl
    have f0 : w1.frozen? ⟨w.heap.size + 1 + 1 + 1, 0, none⟩ = false := frozen_of_row _ _ _ _ _ B1.out
    clear g1
    go_wp2_with fail
    have q0 := (ci_res B1.out (.slice none 0 0)).c (i := 0) rfl
    refine bodyPost_ret (v := .tuple #[.agg #[.slice none 0 0], .bool false]) (by simp [results, Tryz.results20, go_sem, q0]) rfl ⟨_, rfl, ?_, XC.nil (Nat.le_refl _)⟩
    exact HG1.out.own (p := ⟨w.heap.size + 1 + 1 + 1, 0, none⟩) (by simp; omega) _
  · have hB2 : B2 = false := by simpa using hB
    subst hB2
    replace KP := KP rfl
    go_enter Tryz.func20, Tryz.ntmps20
    go_wp2_with fail
    refine (KG _ HA.out).mono ?_
    rintro e w0 ⟨rfl, g0⟩
    have HG0 : Hid (Old w w0) := Old.trans HA.out g0
    have BR0 : Hid (Bk w0 (w.heap.size + 1 + 1 + 1) #[.slice none 0 0] 42) := BR.out.old g0
    have BP0 : Hid (Bk w0 w.heap.size #[.int .i64 N, .int .i64 T, .int .i64 E, .slice a3 l3 c3] 28) := BP.out.old g0
    have BB0 : Hid (Bk w0 (w.heap.size + 1 + 1) #[.slice a2 l2 c2] 42) := BB.out.old g0
    have p0 := BP0.out.c (i := 0) rfl
    have p1 := BP0.out.c (i := 1) rfl
    have p2 := BP0.out.c (i := 2) rfl
    have p3 := BP0.out.c (i := 3) rfl
    have p4 := BB0.out.c (i := 0) rfl
    clear g0 HA BP BR BB
    go_wp2_with fail
    refine (KP _ HG0.out).mono ?_
    rintro e w1 ⟨rfl, g1⟩
    have HG1 : Hid (Old w w1) := Old.trans HG0.out g1
    have B1 : Hid (Bk w1 (w.heap.size + 1 + 1 + 1) #[.slice none 0 0] 42) := BR0.out.old g1
    have z0 := B1.out.c (i := 0) rfl
    have f0 : w1.frozen? ⟨w.heap.size + 1 + 1 + 1, 0, none⟩ = false := frozen_of_row _ _ _ _ _ B1.out
    clear g1
    go_wp2_with fail
    have q0 := (ci_res B1.out (.slice none 0 0)).c (i := 0) rfl
    refine bodyPost_ret (v := .tuple #[.agg #[.slice none 0 0], .bool false]) (by simp [results, Tryz.results20, go_sem, q0]) rfl ⟨_, rfl, ?_, XC.nil (Nat.le_refl _)⟩
    exact HG1.out.own (p := ⟨w.heap.size + 1 + 1 + 1, 0, none⟩) (by simp; omega) _
set_option maxRecDepth 100000 in
set_option maxHeartbeats 8000000 in
theorem spec_AddCiphers_yes (N T E : Int) (a3 : Option Addr) (l3 c3 : Nat) (q1 o1 m1 c1 q2 o2 m2 c2 : Nat) (zsss : List (List (List Int))) (us1 us2 : Nat → Value) (w : World) (hm1 : 2 ≤ m1 ∧ m1 ≤ 3) (hm2 : 2 ≤ m2 ∧ m2 ≤ 3) (hz : zsss.length = max m1 m2) (hb1 : q1 < w.heap.size) (hb2 : q2 < w.heap.size)
    (hus1 : ∀ j, j < m1 → ∃ a l c, us1 j = .slice a l c) (hc1 : ∀ j, j < m1 → w.cell? ⟨q1, o1 + j, none⟩ = some (us1 j))
    (hus2 : ∀ j, j < m2 → ∃ a l c, us2 j = .slice a l c) (hc2 : ∀ j, j < m2 → w.cell? ⟨q2, o2 + j, none⟩ = some (us2 j))
    (KG : ∀ W, Old w W → Calls Tryz.prog 59 #[.agg #[.int .i64 N, .int .i64 T, .int .i64 E, .slice a3 l3 c3], .agg #[.slice (some ⟨q1, o1, none⟩) m1 c1]] W fun e w' => e = .returned (.bool true) ∧ Old W w')
    (KP : ∀ W, Old w W → Calls Tryz.prog 60 #[.agg #[.int .i64 N, .int .i64 T, .int .i64 E, .slice a3 l3 c3], .agg #[.slice (some ⟨q2, o2, none⟩) m2 c2]] W fun e w' => e = .returned (.bool true) ∧ Old W w')
    (KA : ∀ j, j < m1 → j < m2 → ∀ W, Old w W → Calls Tryz.prog 62 #[.agg #[.int .i64 N, .slice a3 l3 c3], us1 j, us2 j] W fun e w' => ∃ v', e = .returned v' ∧ Old W w' ∧ OwS (zsss.getD j []) w' W.heap.size w'.heap.size v')
    (KB : ∀ j, m1 ≤ j → j < m2 → ∀ W, Old w W → Calls Tryz.prog 61 #[us2 j] W fun e w' => ∃ v', e = .returned v' ∧ Old W w' ∧ OwS (zsss.getD j []) w' W.heap.size w'.heap.size v')
    (KC : ∀ j, j < m1 → m2 ≤ j → ∀ W, Old w W → Calls Tryz.prog 61 #[us1 j] W fun e w' => ∃ v', e = .returned v' ∧ Old W w' ∧ OwS (zsss.getD j []) w' W.heap.size w'.heap.size v') :
    Calls Tryz.prog 20 #[.agg #[.int .i64 N, .int .i64 T, .int .i64 E, .slice a3 l3 c3], .agg #[.slice (some ⟨q1, o1, none⟩) m1 c1], .agg #[.slice (some ⟨q2, o2, none⟩) m2 c2]] w fun e w' => ∃ r0, e = .returned (.tuple #[.agg r0, .bool true]) ∧ Old w w' ∧ XC zsss w' w.heap.size w'.heap.size r0 := by
  have HA : Hid (Old w ((((w.alloc (.cells #[.int .i64 N, .int .i64 T, .int .i64 E, .slice a3 l3 c3] 28)).alloc (.cells #[.slice (some ⟨q1, o1, none⟩) m1 c1] 42)).alloc (.cells #[.slice (some ⟨q2, o2, none⟩) m2 c2] 42)).alloc (.cells #[.slice none 0 0] 42))) := ((((Old.refl w).alloc _).alloc _).alloc _).alloc _
  have BP : Hid (Bk ((((w.alloc (.cells #[.int .i64 N, .int .i64 T, .int .i64 E, .slice a3 l3 c3] 28)).alloc (.cells #[.slice (some ⟨q1, o1, none⟩) m1 c1] 42)).alloc (.cells #[.slice (some ⟨q2, o2, none⟩) m2 c2] 42)).alloc (.cells #[.slice none 0 0] 42)) w.heap.size #[.int .i64 N, .int .i64 T, .int .i64 E, .slice a3 l3 c3] 28) := (((Bk.new' w _ _ rfl).alloc _).alloc _).alloc _
  have BA : Hid (Bk ((((w.alloc (.cells #[.int .i64 N, .int .i64 T, .int .i64 E, .slice a3 l3 c3] 28)).alloc (.cells #[.slice (some ⟨q1, o1, none⟩) m1 c1] 42)).alloc (.cells #[.slice (some ⟨q2, o2, none⟩) m2 c2] 42)).alloc (.cells #[.slice none 0 0] 42)) (w.heap.size + 1) #[.slice (some ⟨q1, o1, none⟩) m1 c1] 42) := ((Bk.new' _ _ _ (by simp)).alloc _).alloc _
  have BB : Hid (Bk ((((w.alloc (.cells #[.int .i64 N, .int .i64 T, .int .i64 E, .slice a3 l3 c3] 28)).alloc (.cells #[.slice (some ⟨q1, o1, none⟩) m1 c1] 42)).alloc (.cells #[.slice (some ⟨q2, o2, none⟩) m2 c2] 42)).alloc (.cells #[.slice none 0 0] 42)) (w.heap.size + 1 + 1) #[.slice (some ⟨q2, o2, none⟩) m2 c2] 42) := (Bk.new' _ _ _ (by simp)).alloc _
  have BR : Hid (Bk ((((w.alloc (.cells #[.int .i64 N, .int .i64 T, .int .i64 E, .slice a3 l3 c3] 28)).alloc (.cells #[.slice (some ⟨q1, o1, none⟩) m1 c1] 42)).alloc (.cells #[.slice (some ⟨q2, o2, none⟩) m2 c2] 42)).alloc (.cells #[.slice none 0 0] 42)) (w.heap.size + 1 + 1 + 1) #[.slice none 0 0] 42) := Bk.new' _ _ _ (by simp)
  have HU1 : Hid (∀ j, j < m1 → ∃ a l c, us1 j = .slice a l c) := hus1
  have HC1 : Hid (∀ j, j < m1 → w.cell? ⟨q1, o1 + j, none⟩ = some (us1 j)) := hc1
  have HU2 : Hid (∀ j, j < m2 → ∃ a l c, us2 j = .slice a l c) := hus2
  have HC2 : Hid (∀ j, j < m2 → w.cell? ⟨q2, o2 + j, none⟩ = some (us2 j)) := hc2
  have HKA : Hid (∀ j, j < m1 → j < m2 → ∀ W, Old w W → Calls Tryz.prog 62 #[.agg #[.int .i64 N, .slice a3 l3 c3], us1 j, us2 j] W fun e w' => ∃ v', e = .returned v' ∧ Old W w' ∧ OwS (zsss.getD j []) w' W.heap.size w'.heap.size v') := KA
  have HKB : Hid (∀ j, m1 ≤ j → j < m2 → ∀ W, Old w W → Calls Tryz.prog 61 #[us2 j] W fun e w' => ∃ v', e = .returned v' ∧ Old W w' ∧ OwS (zsss.getD j []) w' W.heap.size w'.heap.size v') := KB
  have HKC : Hid (∀ j, j < m1 → m2 ≤ j → ∀ W, Old w W → Calls Tryz.prog 61 #[us1 j] W fun e w' => ∃ v', e = .returned v' ∧ Old W w' ∧ OwS (zsss.getD j []) w' W.heap.size w'.heap.size v') := KC
  have HZ : Hid (zsss.length = max m1 m2) := hz
  clear hus1 hc1 hus2 hc2 KA KB KC hz
  go_enter Tryz.func20, Tryz.ntmps20
  go_wp2_with fail
  refine (KG _ HA.out).mono ?_
  rintro e w0 ⟨rfl, g0⟩
  have HG0 : Hid (Old w w0) := Old.trans HA.out g0
  have BP0 : Hid (Bk w0 w.heap.size #[.int .i64 N, .int .i64 T, .int .i64 E, .slice a3 l3 c3] 28) := BP.out.old g0
  have BA0 : Hid (Bk w0 (w.heap.size + 1) #[.slice (some ⟨q1, o1, none⟩) m1 c1] 42) := BA.out.old g0
  have BB0 : Hid (Bk w0 (w.heap.size + 1 + 1) #[.slice (some ⟨q2, o2, none⟩) m2 c2] 42) := BB.out.old g0
  have BR0 : Hid (Bk w0 (w.heap.size + 1 + 1 + 1) #[.slice none 0 0] 42) := BR.out.old g0
  have p0 := BP0.out.c (i := 0) rfl
  have p1 := BP0.out.c (i := 1) rfl
  have p2 := BP0.out.c (i := 2) rfl
  have p3 := BP0.out.c (i := 3) rfl
  have p4 := BB0.out.c (i := 0) rfl
  clear g0 HA BP BA BB BR KG
  go_wp2_with fail
  refine (KP _ HG0.out).mono ?_
  rintro e w1 ⟨rfl, g1⟩
  have HGw : Hid (Old w w1) := Old.trans HG0.out g1
  have BP1 : Hid (Bk w1 w.heap.size #[.int .i64 N, .int .i64 T, .int .i64 E, .slice a3 l3 c3] 28) := BP0.out.old g1
  have BA1 : Hid (Bk w1 (w.heap.size + 1) #[.slice (some ⟨q1, o1, none⟩) m1 c1] 42) := BA0.out.old g1
  have BB1 : Hid (Bk w1 (w.heap.size + 1 + 1) #[.slice (some ⟨q2, o2, none⟩) m2 c2] 42) := BB0.out.old g1
  have BR1 : Hid (Bk w1 (w.heap.size + 1 + 1 + 1) #[.slice none 0 0] 42) := BR0.out.old g1
  have hs1 : w.heap.size + 4 ≤ w1.heap.size := by have := BR1.out.lt; omega
  have HOA : Hid (Ows (PaK zsss 0) (w1.alloc (.cells #[.slice none 0 0] 42)) (w1.heap.size + 1) (w1.alloc (.cells #[.slice none 0 0] 42)).heap.size [.slice none 0 0]) := Ows.nil (Nat.le_refl _)
  have BOA : Hid (Bk (w1.alloc (.cells #[.slice none 0 0] 42)) w1.heap.size #[.slice none 0 0] 42) := Bk.new' w1 _ _ rfl
  have HGA : Hid (Old w1 (w1.alloc (.cells #[.slice none 0 0] 42))) := (Old.refl w1).alloc _
  clear g1 KP p0 p1 p2 p3 p4 BP0 BA0 BB0 BR0 HG0
  go_wp2_with fail
  go_loopw [9] (fun i W => ∃ (k : Nat) (aa : Option Addr) (cap : Nat), k ≤ max m1 m2 ∧ i = .int .i64 k ∧ Hid (Ows (PaK zsss k) W (w1.heap.size + 1) W.heap.size [.slice aa k cap]) ∧ Hid (Bk W w1.heap.size #[.slice aa k cap] 42) ∧ Hid (Old w1 W)) (fun i _ => max m1 m2 - (intOf i).toNat)
  case atStart => exact ⟨0, none, 0, by omega, rfl, HOA, BOA, HGA⟩
  case round =>
    obtain ⟨k, aa, cap, hk, rfl, HO, BO, HG⟩ := hrel
    clear HOA BOA HGA
    have BPr : Hid (Bk wr w.heap.size #[.int .i64 N, .int .i64 T, .int .i64 E, .slice a3 l3 c3] 28) := BP1.out.old HG.out
    have BAr : Hid (Bk wr (w.heap.size + 1) #[.slice (some ⟨q1, o1, none⟩) m1 c1] 42) := BA1.out.old HG.out
    have BBr : Hid (Bk wr (w.heap.size + 1 + 1) #[.slice (some ⟨q2, o2, none⟩) m2 c2] 42) := BB1.out.old HG.out
    have HGW : Hid (Old w wr) := Old.trans HGw.out HG.out
    have z1 := BAr.out.c (i := 0) rfl
    have z2 := BBr.out.c (i := 0) rfl
    have HNB : Hid (∀ bb, (Value.slice aa k cap).ownBlock = some bb → bb ≠ w1.heap.size) := fun bb hbb e => by
      obtain ⟨_, B, hT, hB⟩ := HO.out
      rcases hT with ⟨_, e1, _⟩ | ⟨p, cp, vs, Bs, e1, hc, hbb2⟩
      · simp at e1
        rw [e1.1] at hbb
        cases hbb
      · simp at e1
        rw [e1.1] at hbb
        simp only [Value.ownBlock, Option.some.injEq] at hbb
        have := (hB p ((hbb2 p).2 (.inl rfl))).1
        omega
    by_cases h1 : k < m1
    · have d1 : decide ((k : Int) < (m1 : Int)) = true := decide_eq_true (by omega)
      have d1' : decide ((m1 : Int) ≤ (k : Int)) = false := decide_eq_false (by omega)
      have e1' : decide ((k : Int) ≥ (m1 : Int)) = false := decide_eq_false (by omega)
      have x1 := (HGW.out.cell (p := ⟨q1, o1 + k, none⟩) hb1).trans (HC1.out k h1)
      obtain ⟨au, lu, cu, eu⟩ := HU1.out k h1
      rw [eu] at x1
      by_cases h2 : k < m2
      · have d2 : decide ((k : Int) < (m2 : Int)) = true := decide_eq_true (by omega)
        have d2' : decide ((m2 : Int) ≤ (k : Int)) = false := decide_eq_false (by omega)
        have e2' : decide ((k : Int) ≥ (m2 : Int)) = false := decide_eq_false (by omega)
        have x2 := (HGW.out.cell (p := ⟨q2, o2 + k, none⟩) hb2).trans (HC2.out k h2)
        obtain ⟨av, lv, cv, ev⟩ := HU2.out k h2
        rw [ev] at x2
        have KK := HKA.out k h1 h2
        rw [eu, ev] at KK
        clear eu ev
        have X1 : Hid (wr.cell? ⟨q1, o1 + k, none⟩ = some (.slice au lu cu)) := x1
        have X2 : Hid (wr.cell? ⟨q2, o2 + k, none⟩ = some (.slice av lv cv)) := x2
        clear x1 x2
        go_wp2_with fail
        · refine reg_Ad wr N T E a3 l3 c3 w.heap.size w1.heap.size (w.heap.size + 1) (w.heap.size + 1 + 1) aa k cap q1 o1 m1 c1 au lu cu q2 o2 m2 c2 av lv cv (zsss.getD k []) (fun W v' => Ows (PaK zsss (k + 1)) W (w1.heap.size + 1) W.heap.size [v'] ∧ Bk W w1.heap.size #[v'] 42 ∧ Old w1 W ∧ ∀ b, b < w1.heap.size → W.heap[b]? = wr.heap[b]?) (by omega) BO.out HNB.out (BO.out.c (i := 0) rfl) z1 z2 X1.out X2.out (by omega) (by omega) BPr.out (fun W g => KK W (Old.trans HGW.out g)) (fun W u g ou => parts_app HO.out BO.out.lt (Nat.le_refl _) HG.out BO.out W u g ou) _ _ ?_ ?_ ?_ ?_ ?_ ?_ ?_
          iterate 6 (· exact rfl)
          intro us3 W a5 c5 hfin
          obtain ⟨n1, n2, n3, n4⟩ := hfin
          simp only [putAll, Act.put, slotAd, List.range, List.range.loop, List.map_cons, List.map_nil, List.getD_cons_zero, List.getD_cons_succ, List.setIfInBounds_toArray, List.set_cons_succ, List.set_cons_zero]
          have N1 : Hid (Ows (PaK zsss (k + 1)) W (w1.heap.size + 1) W.heap.size [.slice a5 (k + 1) c5]) := n1
          have N2 : Hid (Bk W w1.heap.size #[.slice a5 (k + 1) c5] 42) := n2
          have N3 : Hid (Old w1 W) := n3
          clear n1 n2 n3 n4 HO BO HG BPr BAr BBr HGW z1 z2 KK HNB
          go_wp2_with fail
          exact ⟨⟨k + 1, a5, c5, by omega, by go_num, N1, N2, N3⟩, by simp [intOf]; omega⟩
      · have d2 : decide ((k : Int) < (m2 : Int)) = false := decide_eq_false (by omega)
        have d2' : decide ((m2 : Int) ≤ (k : Int)) = true := decide_eq_true (by omega)
        have e2' : decide ((k : Int) ≥ (m2 : Int)) = true := decide_eq_true (by omega)
        have KK := HKC.out k h1 (by omega)
        rw [eu] at KK
        clear eu
        have X1 : Hid (wr.cell? ⟨q1, o1 + k, none⟩ = some (.slice au lu cu)) := x1
        clear x1
        go_wp2_with fail
        · refine reg_Oa wr w1.heap.size (w.heap.size + 1) aa k cap q1 o1 m1 c1 au lu cu (zsss.getD k []) (fun W v' => Ows (PaK zsss (k + 1)) W (w1.heap.size + 1) W.heap.size [v'] ∧ Bk W w1.heap.size #[v'] 42 ∧ Old w1 W ∧ ∀ b, b < w1.heap.size → W.heap[b]? = wr.heap[b]?) (by omega) BO.out HNB.out (BO.out.c (i := 0) rfl) z1 X1.out (by omega) (fun W g => KK W (Old.trans HGW.out g)) (fun W u g ou => parts_app HO.out BO.out.lt (Nat.le_refl _) HG.out BO.out W u g ou) _ _ ?_ ?_ ?_ ?_ ?_
          iterate 4 (· exact rfl)
          intro us3 W a5 c5 hfin
          obtain ⟨n1, n2, n3, n4⟩ := hfin
          simp only [putAll, Act.put, slotOa, List.range, List.range.loop, List.map_cons, List.map_nil, List.getD_cons_zero, List.getD_cons_succ, List.setIfInBounds_toArray, List.set_cons_succ, List.set_cons_zero]
          have N1 : Hid (Ows (PaK zsss (k + 1)) W (w1.heap.size + 1) W.heap.size [.slice a5 (k + 1) c5]) := n1
          have N2 : Hid (Bk W w1.heap.size #[.slice a5 (k + 1) c5] 42) := n2
          have N3 : Hid (Old w1 W) := n3
          clear n1 n2 n3 n4 HO BO HG BPr BAr BBr HGW z1 z2 KK HNB
          go_wp2_with fail
          exact ⟨⟨k + 1, a5, c5, by omega, by go_num, N1, N2, N3⟩, by simp [intOf]; omega⟩
    · have d1 : decide ((k : Int) < (m1 : Int)) = false := decide_eq_false (by omega)
      have d1' : decide ((m1 : Int) ≤ (k : Int)) = true := decide_eq_true (by omega)
      have e1' : decide ((k : Int) ≥ (m1 : Int)) = true := decide_eq_true (by omega)
      by_cases h2 : k < m2
      · have d2 : decide ((k : Int) < (m2 : Int)) = true := decide_eq_true (by omega)
        have x2 := (HGW.out.cell (p := ⟨q2, o2 + k, none⟩) hb2).trans (HC2.out k h2)
        obtain ⟨av, lv, cv, ev⟩ := HU2.out k h2
        rw [ev] at x2
        have KK := HKB.out k (by omega) h2
        rw [ev] at KK
        clear ev
        have X2 : Hid (wr.cell? ⟨q2, o2 + k, none⟩ = some (.slice av lv cv)) := x2
        clear x2
        go_wp2_with fail
        · refine reg_Ob wr w1.heap.size (w.heap.size + 1 + 1) aa k cap q2 o2 m2 c2 av lv cv (zsss.getD k []) (fun W v' => Ows (PaK zsss (k + 1)) W (w1.heap.size + 1) W.heap.size [v'] ∧ Bk W w1.heap.size #[v'] 42 ∧ Old w1 W ∧ ∀ b, b < w1.heap.size → W.heap[b]? = wr.heap[b]?) (by omega) BO.out HNB.out (BO.out.c (i := 0) rfl) z2 X2.out (by omega) (fun W g => KK W (Old.trans HGW.out g)) (fun W u g ou => parts_app HO.out BO.out.lt (Nat.le_refl _) HG.out BO.out W u g ou) _ _ ?_ ?_ ?_ ?_ ?_
          iterate 4 (· exact rfl)
          intro us3 W a5 c5 hfin
          obtain ⟨n1, n2, n3, n4⟩ := hfin
          simp only [putAll, Act.put, slotOb, List.range, List.range.loop, List.map_cons, List.map_nil, List.getD_cons_zero, List.getD_cons_succ, List.setIfInBounds_toArray, List.set_cons_succ, List.set_cons_zero]
          have N1 : Hid (Ows (PaK zsss (k + 1)) W (w1.heap.size + 1) W.heap.size [.slice a5 (k + 1) c5]) := n1
          have N2 : Hid (Bk W w1.heap.size #[.slice a5 (k + 1) c5] 42) := n2
          have N3 : Hid (Old w1 W) := n3
          clear n1 n2 n3 n4 HO BO HG BPr BAr BBr HGW z1 z2 KK HNB
          go_wp2_with fail
          exact ⟨⟨k + 1, a5, c5, by omega, by go_num, N1, N2, N3⟩, by simp [intOf]; omega⟩
      · have d2 : decide ((k : Int) < (m2 : Int)) = false := decide_eq_false (by omega)
        have hkk : k = zsss.length := by have := HZ.out; omega
        have BRr : Hid (Bk wr (w.heap.size + 1 + 1 + 1) #[.slice none 0 0] 42) := BR1.out.old HG.out
        have z0 := BO.out.c (i := 0) rfl
        have y0 := BRr.out.c (i := 0) rfl
        have f0 : wr.frozen? ⟨w.heap.size + 1 + 1 + 1, 0, none⟩ = false := frozen_of_row _ _ _ _ _ BRr.out
        have HKK : Hid (k = zsss.length) := hkk
        clear hkk
        go_wp2_with fail
        have q0 := (ci_res BRr.out (.slice aa k cap)).c (i := 0) rfl
        refine bodyPost_ret (v := .tuple #[.agg #[.slice aa k cap], .bool true]) (by simp [results, Tryz.results20, go_sem, q0]) rfl ⟨_, rfl, ?_, aa, cap, by rw [HKK.out], ?_⟩
        · exact HGW.out.own (p := ⟨w.heap.size + 1 + 1 + 1, 0, none⟩) (by simp; omega) _
        · have h1 : Ows (TTT zsss) wr (w1.heap.size + 1) wr.heap.size [.slice aa zsss.length cap] := by
            have := HO.out
            rw [HKK.out] at this
            exact this
          have h2 := h1.putT (k := w.heap.size + 1 + 1 + 1) (j := 0) (x := .slice aa k cap) (.inl (by omega))
          exact h2.low (lo' := w.heap.size) (by omega) (by simp) (Nat.le_refl _)
end Go.Proofs.YtakleianimcmdaaGreatDoor
