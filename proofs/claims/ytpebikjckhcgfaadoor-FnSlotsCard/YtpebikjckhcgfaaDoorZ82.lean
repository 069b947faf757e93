/- Proved: several texts in one: what each proves is said ahead of it. -/
import Derived.Test.YtpebikjckhcgfaaDoorZ79
/- Proved: the contract of the program's EncodeSlots. -/
namespace Go.Proofs.YtpebikjckhcgfaaDoor
open Go.ChangeShapes Go.WideShapes Go.ChangeAt Go.RowKit
set_option linter.unusedVariables false
set_option linter.unusedSimpArgs false
/-- the values after k slots -/
def enS (N : Nat) (xs : List Nat) : Nat → List Nat
  | 0 => List.replicate N 0
  | k + 1 => (enS N xs k).set ((plL N).getD k 0) (xs.getD k 0)
theorem enS_len (N : Nat) (xs : List Nat) : ∀ k, (enS N xs k).length = N
  | 0 => by simp [enS]
  | k + 1 => by simp [enS, enS_len N xs k]
theorem enS_lt {N P : Nat} {xs : List Nat} (hP : 0 < P) (h : ∀ x ∈ xs, x < P) : ∀ k, ∀ y ∈ enS N xs k, y < P
  | 0 => fun y hy => by
    have := List.eq_of_mem_replicate hy
    omega
  | k + 1 => fun y hy => by
    rcases List.mem_or_eq_of_mem_set hy with h1 | h1
    · exact enS_lt hP h k y h1
    · rw [h1]
      exact getD_lt h hP k
theorem plL_get {N : Nat} (h : Sz4 N) (k : Nat) (hk : k < N) : (plL N).getD k 0 = plN N ((exL N).getD k 0) := by
  have hj2 : k < (exL N).length := by rw [exL_len h]; exact hk
  simp [plL, List.getD, hj2, plN]
theorem plL_bd {N : Nat} (h : Sz4 N) (k : Nat) (hk : k < N) : (plL N).getD k 0 < N := by
  rw [plL_get h k hk]
  exact back_lt0 h _
set_option maxRecDepth 100000 in
set_option maxHeartbeats 4000000 in
theorem impl_EncodeSlots_no1 (n p : Int) (v : Value) (xs : List Int) (w : World) (hv : Row w v xs) (hP : PrsW w) (hT : TabW w) (cr : ∀ W, PrsW W → TabW W → Calls Tryd.prog 61 #[.int .i64 p, .int .i64 n] W fun e w' => e = .returned (.tuple #[.agg ring0, .bool false]) ∧ Old W w') :
    Calls Tryd.prog 16 #[.int .i64 n, .int .i64 p, v] w fun e w' => e = .returned (.tuple #[.slice none 0 0, .bool false]) ∧ Old w w' := by
  have CR := cr w hP hT
  obtain ⟨a, c, rfl⟩ := hv.slice
  clear hv hP hT cr
  go_enter Tryd.func16, Tryd.ntmps16
  go_wp2_with fail
  refine CR.mono ?_
  rintro e w1 ⟨rfl, g1⟩
  go_wp2_with fail
  go_ret2
  exact ⟨rfl, g1.alloc _⟩
set_option maxRecDepth 100000 in
set_option maxHeartbeats 4000000 in
theorem impl_EncodeSlots_no2 (n p x y z : Int) (v : Value) (xs : List Int) (w : World) (hv : Row w v xs) (hP : PrsW w) (hT : TabW w) (cr : ∀ W, PrsW W → TabW W → Calls Tryd.prog 61 #[.int .i64 p, .int .i64 n] W fun e w' => e = .returned (.tuple #[.agg #[.int .i64 x, .int .i64 y, .int .i64 z], .bool true]) ∧ Old W w')
    (cp : ∀ W, Old w W → Calls Tryd.prog 62 #[.agg #[.int .i64 x, .int .i64 y, .int .i64 z], v] W fun e w' => e = .returned (.bool false) ∧ Old W w') :
    Calls Tryd.prog 16 #[.int .i64 n, .int .i64 p, v] w fun e w' => e = .returned (.tuple #[.slice none 0 0, .bool false]) ∧ Old w w' := by
  have CR := cr w hP hT
  obtain ⟨a, c, rfl⟩ := hv.slice
  clear hv hP hT cr
  go_enter Tryd.func16, Tryd.ntmps16
  go_wp2_with fail
  refine CR.mono ?_
  rintro e w1 ⟨rfl, g1⟩
  have HG : Hid (Old w (w1.alloc (.cells #[.int .i64 x, .int .i64 y, .int .i64 z] 30))) := g1.alloc _
  have q0 : (w1.alloc (.cells #[.int .i64 x, .int .i64 y, .int .i64 z] 30)).cell? ⟨w1.heap.size, 0, none⟩ = some (.int .i64 x) := (cell_at _ _ _ _ 0 rfl).trans rfl
  have q1 : (w1.alloc (.cells #[.int .i64 x, .int .i64 y, .int .i64 z] 30)).cell? ⟨w1.heap.size, 1, none⟩ = some (.int .i64 y) := (cell_at _ _ _ _ 1 rfl).trans rfl
  have q2 : (w1.alloc (.cells #[.int .i64 x, .int .i64 y, .int .i64 z] 30)).cell? ⟨w1.heap.size, 2, none⟩ = some (.int .i64 z) := (cell_at _ _ _ _ 2 rfl).trans rfl
  have CP := cp _ HG.out
  clear g1 cp CR
  go_wp2_with fail
  refine CP.mono ?_
  rintro e w2 ⟨rfl, g2⟩
  have HG2 : Hid (Old w w2) := Old.trans HG.out g2
  clear g2 CP q0 q1 q2 HG
  go_wp2_with fail
  go_ret2
  exact ⟨rfl, HG2.out⟩
set_option maxRecDepth 100000 in
set_option maxHeartbeats 4000000 in
theorem impl_EncodeSlots_yes (N P R : Nat) (v : Value) (xs zs : List Nat) (w : World) (h : Sz4 N) (hv : Row w v (toZ xs)) (hl : xs.length = N) (hP : PrsW w) (hT : TabW w)
    (cr : ∀ W, PrsW W → TabW W → Calls Tryd.prog 61 #[.int .i64 P, .int .i64 N] W fun e w' => e = .returned (.tuple #[.agg #[.int .i64 P, .int .i64 N, .int .i64 R], .bool true]) ∧ Old W w')
    (cp : ∀ W, Old w W → Calls Tryd.prog 62 #[.agg #[.int .i64 P, .int .i64 N, .int .i64 R], v] W fun e w' => e = .returned (.bool true) ∧ Old W w')
    (ci : ∀ W u, TabW W → Row W u (toZ (enS N xs N)) → Calls Tryd.prog 65 #[.agg #[.int .i64 P, .int .i64 N, .int .i64 R], u] W fun e w' => ∃ v', e = .returned v' ∧ Old W w' ∧ Own w' W.heap.size v' (toZ zs)) :
    Calls Tryd.prog 16 #[.int .i64 N, .int .i64 P, v] w fun e w' => ∃ v', e = .returned (.tuple #[v', .bool true]) ∧ Old w w' ∧ Own w' w.heap.size v' (toZ zs) := by
  obtain ⟨i0, hi, hz0, hz1, hz2⟩ := info_parts Tryd.infoInt
  have hb := sz_bd h
  have c1 := fun W hT => slotPointsOf_any N W h hT
  have c2 := fun g base W ho => inOne_pt N g base W h ho
  obtain ⟨H, hH⟩ : ∃ H, N / 2 = H := ⟨_, rfl⟩
  rw [hH] at c1 c2
  have HRD : Hid (∀ w base v, w.ownsRow base 91 2 v N (ptC N) → RdP w v N) := fun w base v ho => rd_of h ho
  have C1 : Hid (∀ W, TabW W → Calls Tryd.prog 63 #[.int .i64 N] W fun en w' => ∃ g, W.heap.size ≤ g ∧ en = .returned (.agg #[.slice (some ⟨g, 0, none⟩) H N, .slice (some ⟨g, H * 2, none⟩) H H]) ∧ Old W w' ∧ OwP w' W.heap.size g N) := c1
  have C2 : Hid (∀ g base W, OwP W base g N → Calls Tryd.prog 64 #[.agg #[.slice (some ⟨g, 0, none⟩) H N, .slice (some ⟨g, H * 2, none⟩) H H]] W fun e w' => ∃ v', e = .returned v' ∧ Old W w' ∧ w'.ownsRow W.heap.size 91 2 v' N (ptC N)) := c2
  have HPG : Hid (∀ k, k < N → (plL N).getD k 0 = plN N ((exL N).getD k 0)) := fun k hk => plL_get h k hk
  have HPB : Hid (∀ k, k < N → (plL N).getD k 0 < N) := fun k hk => plL_bd h k hk
  have HS : Hid (∀ k, enS N xs (k + 1) = (enS N xs k).set ((plL N).getD k 0) (xs.getD k 0)) := fun k => rfl
  have HSL : Hid (∀ k, (enS N xs k).length = N) := enS_len N xs
  have HS0 : Hid (enS N xs 0 = List.replicate N 0) := rfl
  have CI : Hid (∀ W u, TabW W → Row W u (toZ (enS N xs N)) → Calls Tryd.prog 65 #[.agg #[.int .i64 P, .int .i64 N, .int .i64 R], u] W fun e w' => ∃ v', e = .returned v' ∧ Old W w' ∧ Own w' W.heap.size v' (toZ zs)) := ci
  have CR := cr w hP hT
  have HT : Hid (TabW w) := hT
  obtain ⟨bx, ox, capx, e, hbx, hcx⟩ := hv.atZ (by omega)
  rw [hl] at e hcx
  subst e
  have HX : Hid (∀ j, j < N → w.cell? ⟨bx, ox + j, none⟩ = some (.int .i64 ((xs.getD j 0 : Nat) : Int))) := hcx
  generalize enS N xs = EN at *
  clear hv hP hT cr h hl hcx c1 c2 hH ci
  go_enter Tryd.func16, Tryd.ntmps16
  go_wp2_with fail
  refine CR.mono ?_
  rintro e w1 ⟨rfl, g1⟩
  have HG : Hid (Old w (w1.alloc (.cells #[.int .i64 P, .int .i64 N, .int .i64 R] 30))) := g1.alloc _
  have q0 : (w1.alloc (.cells #[.int .i64 P, .int .i64 N, .int .i64 R] 30)).cell? ⟨w1.heap.size, 0, none⟩ = some (.int .i64 P) := (cell_at _ _ _ _ 0 rfl).trans rfl
  have q1 : (w1.alloc (.cells #[.int .i64 P, .int .i64 N, .int .i64 R] 30)).cell? ⟨w1.heap.size, 1, none⟩ = some (.int .i64 N) := (cell_at _ _ _ _ 1 rfl).trans rfl
  have q2 : (w1.alloc (.cells #[.int .i64 P, .int .i64 N, .int .i64 R] 30)).cell? ⟨w1.heap.size, 2, none⟩ = some (.int .i64 R) := (cell_at _ _ _ _ 2 rfl).trans rfl
  have CP := cp _ HG.out
  clear g1 cp CR
  go_wp2_with fail
  refine CP.mono ?_
  rintro e w2 ⟨rfl, g2⟩
  have HG2 : Hid (Old w w2) := Old.trans HG.out g2
  have hs0 : w.heap.size ≤ w2.heap.size := HG2.out.size
  have hs2 : w1.heap.size < w2.heap.size := Nat.lt_of_lt_of_le (by simp) g2.size
  have R2 : Hid (w2.cell? ⟨w1.heap.size, 0, none⟩ = some (.int .i64 P) ∧ w2.cell? ⟨w1.heap.size, 1, none⟩ = some (.int .i64 N) ∧ w2.cell? ⟨w1.heap.size, 2, none⟩ = some (.int .i64 R)) := ⟨(g2.cell (p := ⟨w1.heap.size, 0, none⟩) (by simp)).trans q0, (g2.cell (p := ⟨w1.heap.size, 1, none⟩) (by simp)).trans q1, (g2.cell (p := ⟨w1.heap.size, 2, none⟩) (by simp)).trans q2⟩
  clear g2 CP q0 q1 q2 HG
  go_wp2_with (at_make; refine wpList_make_full _ rfl _ _ 23 rfl w2.heap.size 3 i0 (.int .i64 0) 1 Tryd.underlying23 hi hz0 hz1 .i64 .i64 _ _ N rfl rfl rfl rfl (by rw [hz2]; omega) (by unfold maxLen; omega) (Nat.le_refl _) ?_; intro w3 hown hgrow)
  have HO3 : Hid (OwnI w3 w2.heap.size w2.heap.size N (toZ (EN 0))) := by
    have h5 := OwnI.new w2 w3 N hown
    show OwnI _ _ _ _ _
    rw [HS0.out]
    simpa using h5
  have g3 : Old w2 w3 := Below.grown (Below.refl _ _) hgrow (Nat.le_refl _) (fun _ h => by cases h)
  have HG3 : Hid (Old w w3) := Old.trans HG2.out g3
  have R3 : Hid (w3.cell? ⟨w1.heap.size, 0, none⟩ = some (.int .i64 P) ∧ w3.cell? ⟨w1.heap.size, 1, none⟩ = some (.int .i64 N) ∧ w3.cell? ⟨w1.heap.size, 2, none⟩ = some (.int .i64 R)) := ⟨(g3.cell (p := ⟨w1.heap.size, 0, none⟩) hs2).trans R2.out.1, (g3.cell (p := ⟨w1.heap.size, 1, none⟩) hs2).trans R2.out.2.1, (g3.cell (p := ⟨w1.heap.size, 2, none⟩) hs2).trans R2.out.2.2⟩
  have hs3 : w2.heap.size < w3.heap.size := own_ltI HO3.out
  clear hown hgrow R2 g3 HG2
  go_wp2_with fail
  refine (C1.out _ (HT.out.old HG3.out)).mono ?_
  rintro e w4 ⟨g, hg, rfl, g4, o4⟩
  have HP4 : Hid (OwP w4 w3.heap.size g N) := o4
  have HO4 : Hid (OwnI w4 w2.heap.size w2.heap.size N (toZ (EN 0))) := HO3.out.old g4
  have HG4 : Hid (Old w w4) := Old.trans HG3.out g4
  have R4 : Hid (w4.cell? ⟨w1.heap.size, 0, none⟩ = some (.int .i64 P) ∧ w4.cell? ⟨w1.heap.size, 1, none⟩ = some (.int .i64 N) ∧ w4.cell? ⟨w1.heap.size, 2, none⟩ = some (.int .i64 R)) := ⟨(g4.cell (p := ⟨w1.heap.size, 0, none⟩) (show w1.heap.size < w3.heap.size by omega)).trans R3.out.1, (g4.cell (p := ⟨w1.heap.size, 1, none⟩) (show w1.heap.size < w3.heap.size by omega)).trans R3.out.2.1, (g4.cell (p := ⟨w1.heap.size, 2, none⟩) (show w1.heap.size < w3.heap.size by omega)).trans R3.out.2.2⟩
  have hs4 : w3.heap.size ≤ w4.heap.size := g4.size
  clear o4 g4 HO3 HG3 R3
  go_wp2_with fail
  refine (C2.out _ _ _ HP4.out).mono ?_
  rintro e w5 ⟨v5, rfl, g5, o5⟩
  obtain ⟨b5, cap5, rfl, hb5, hc5⟩ := HRD.out _ _ _ o5
  have HO5 : Hid (OwnI w5 w2.heap.size w2.heap.size N (toZ (EN 0))) := HO4.out.old g5
  have HG5 : Hid (Old w w5) := Old.trans HG4.out g5
  have R5 : Hid (w5.cell? ⟨w1.heap.size, 0, none⟩ = some (.int .i64 P) ∧ w5.cell? ⟨w1.heap.size, 1, none⟩ = some (.int .i64 N) ∧ w5.cell? ⟨w1.heap.size, 2, none⟩ = some (.int .i64 R)) := ⟨(g5.cell (p := ⟨w1.heap.size, 0, none⟩) (show w1.heap.size < w4.heap.size by omega)).trans R4.out.1, (g5.cell (p := ⟨w1.heap.size, 1, none⟩) (show w1.heap.size < w4.heap.size by omega)).trans R4.out.2.1, (g5.cell (p := ⟨w1.heap.size, 2, none⟩) (show w1.heap.size < w4.heap.size by omega)).trans R4.out.2.2⟩
  have HC5 : Hid (∀ j, j < N → w5.cell? ⟨b5, j * 2, none⟩ = some (.int .i64 ((exL N).getD j 0 : Nat)) ∧ w5.cell? ⟨b5, j * 2 + 1, none⟩ = some (.int .i64 (plN N ((exL N).getD j 0)))) := hc5
  have hs5 : w4.heap.size ≤ b5 := (o5.lt b5 rfl).1
  clear o5 g5 hc5 HO4 HG4 HP4 C1 C2 HRD R4
  go_wp2_with fail
  go_loopw [33] (fun i W => ∃ k : Nat, k ≤ N ∧ i = .int .i64 k ∧ Hid (OwnI W w2.heap.size w2.heap.size N (toZ (EN k))) ∧ Hid (Old w W) ∧ Hid (∀ j, j < N → W.cell? ⟨b5, j * 2, none⟩ = some (.int .i64 ((exL N).getD j 0 : Nat)) ∧ W.cell? ⟨b5, j * 2 + 1, none⟩ = some (.int .i64 (plN N ((exL N).getD j 0)))) ∧ b5 < W.heap.size ∧ Hid (W.cell? ⟨w1.heap.size, 0, none⟩ = some (.int .i64 P) ∧ W.cell? ⟨w1.heap.size, 1, none⟩ = some (.int .i64 N) ∧ W.cell? ⟨w1.heap.size, 2, none⟩ = some (.int .i64 R))) (fun i _ => N - (intOf i).toNat)
  case atStart => exact ⟨0, by omega, rfl, HO5, HG5, HC5, hb5, R5⟩
  case round =>
    obtain ⟨k, hk, rfl, HO, HG, HC, hbr, RR⟩ := hrel
    clear HO5 HG5 HC5 hb5 R5
    by_cases hlt : k < N
    · have d1 : decide ((k : Int) < (N : Int)) = true := by simp; omega
      have ki : (k : Int) < (N : Int) := by omega
      obtain ⟨x0, x1⟩ := HC.out k hlt
      have HST : Hid (EN (k + 1) = (EN k).set ((plL N).getD k 0) (xs.getD k 0)) := HS.out k
      have hpb := HPB.out k hlt
      have hx := (HG.out.cell (p := ⟨bx, ox + k, none⟩) hbx).trans (HX.out k hlt)
      have HFL : Hid ((toZ (EN k)).length = N) := by
        show _ = _
        rw [toZ_len]
        exact HSL.out k
      rw [HPG.out k hlt] at HST hpb
      generalize plN N ((exL N).getD k 0) = y at *
      generalize (exL N).getD k 0 = x at *
      generalize xs.getD k 0 = u at *
      have yi : (y : Int) < (N : Int) := by omega
      have hbx2 : bx < wr.heap.size := Nat.lt_of_lt_of_le hbx HG.out.size
      have gA : Old wr (wr.alloc (.cells #[.int .i64 x, .int .i64 y] 91)) := (Old.refl wr).alloc _
      have q0 : (wr.alloc (.cells #[.int .i64 x, .int .i64 y] 91)).cell? ⟨wr.heap.size, 0, none⟩ = some (.int .i64 x) := (cell_at _ _ _ _ 0 rfl).trans rfl
      have q1 : (wr.alloc (.cells #[.int .i64 x, .int .i64 y] 91)).cell? ⟨wr.heap.size, 1, none⟩ = some (.int .i64 y) := (cell_at _ _ _ _ 1 rfl).trans rfl
      have q2 := (gA.cell (p := ⟨bx, ox + k, none⟩) hbx2).trans hx
      have OA := HO.out.old gA
      have q3 := OA.get HFL.out y hpb
      have q4 := OA.free y
      generalize (toZ (EN k)).getD y 0 = old at *
      have KEY : Hid (∀ W, Old (wr.alloc (.cells #[.int .i64 x, .int .i64 y] 91)) W → OwnI (W.setCell ⟨w2.heap.size, y, none⟩ (.int .i64 u)) w2.heap.size w2.heap.size N (toZ (EN (k + 1))) ∧ Old w (W.setCell ⟨w2.heap.size, y, none⟩ (.int .i64 u)) ∧ (∀ j, j < N → (W.setCell ⟨w2.heap.size, y, none⟩ (.int .i64 u)).cell? ⟨b5, j * 2, none⟩ = some (.int .i64 ((exL N).getD j 0 : Nat)) ∧ (W.setCell ⟨w2.heap.size, y, none⟩ (.int .i64 u)).cell? ⟨b5, j * 2 + 1, none⟩ = some (.int .i64 (plN N ((exL N).getD j 0)))) ∧ b5 < (W.setCell ⟨w2.heap.size, y, none⟩ (.int .i64 u)).heap.size ∧ ((W.setCell ⟨w2.heap.size, y, none⟩ (.int .i64 u)).cell? ⟨w1.heap.size, 0, none⟩ = some (.int .i64 P) ∧ (W.setCell ⟨w2.heap.size, y, none⟩ (.int .i64 u)).cell? ⟨w1.heap.size, 1, none⟩ = some (.int .i64 N) ∧ (W.setCell ⟨w2.heap.size, y, none⟩ (.int .i64 u)).cell? ⟨w1.heap.size, 2, none⟩ = some (.int .i64 R))) := fun W q => by
        have q' := Old.trans gA q
        have h6 := (HO.out.old q').put y u
        have hsz := q'.size
        have hne : b5 ≠ w2.heap.size := by omega
        have hne1 : w1.heap.size ≠ w2.heap.size := by omega
        refine ⟨?_, (Old.trans HG.out q').own (p := ⟨w2.heap.size, y, none⟩) (show w.heap.size ≤ w2.heap.size from hs0) _, fun j hj => ?_, by simpa using Nat.lt_of_lt_of_le hbr hsz, ?_⟩
        · rw [HST.out]
          have e6 : toZ ((EN k).set y u) = (toZ (EN k)).set y (u : Int) := by simp [toZ, List.map_set]
          rw [e6]
          exact h6
        · rw [cellOS _ _ _ _ hne, cellOS _ _ _ _ hne]
          exact ⟨(q'.cell (p := ⟨b5, j * 2, none⟩) hbr).trans (HC.out j hj).1, (q'.cell (p := ⟨b5, j * 2 + 1, none⟩) hbr).trans (HC.out j hj).2⟩
        · rw [cellOS _ _ _ _ hne1, cellOS _ _ _ _ hne1, cellOS _ _ _ _ hne1]
          have hw1 := block_lt_of_cell RR.out.1
          exact ⟨(q'.cell (p := ⟨w1.heap.size, 0, none⟩) hw1).trans RR.out.1, (q'.cell (p := ⟨w1.heap.size, 1, none⟩) hw1).trans RR.out.2.1, (q'.cell (p := ⟨w1.heap.size, 2, none⟩) hw1).trans RR.out.2.2⟩
      clear HO HC HG RR hx OA HST gA
      go_wp2_with fail
      refine wp_region_noPanic ?_
      go_region_with fail
      all_goals
        refine NoPanic.normal ?_
        obtain ⟨k1, k2, k3, k4, k5, k6, k7⟩ := KEY.out (wr.alloc (.cells #[.int .i64 x, .int .i64 y] 91)) (Old.refl _)
        have gd : Old ((wr.alloc (.cells #[.int .i64 x, .int .i64 y] 91)).setCell ⟨w2.heap.size, y, none⟩ (.int .i64 u)) ((wr.alloc (.cells #[.int .i64 x, .int .i64 y] 91)).setCell ⟨w2.heap.size, y, none⟩ (.int .i64 u)).drew := Below.drew (Old.refl _)
        have hw1 := block_lt_of_cell k5
        have K1 : Hid (OwnI ((wr.alloc (.cells #[.int .i64 x, .int .i64 y] 91)).setCell ⟨w2.heap.size, y, none⟩ (.int .i64 u)).drew w2.heap.size w2.heap.size N (toZ (EN (k + 1)))) := k1.old gd
        have K2 : Hid (Old w ((wr.alloc (.cells #[.int .i64 x, .int .i64 y] 91)).setCell ⟨w2.heap.size, y, none⟩ (.int .i64 u)).drew) := Old.trans k2 gd
        have K3 : Hid (∀ j, j < N → ((wr.alloc (.cells #[.int .i64 x, .int .i64 y] 91)).setCell ⟨w2.heap.size, y, none⟩ (.int .i64 u)).drew.cell? ⟨b5, j * 2, none⟩ = some (.int .i64 ((exL N).getD j 0 : Nat)) ∧ ((wr.alloc (.cells #[.int .i64 x, .int .i64 y] 91)).setCell ⟨w2.heap.size, y, none⟩ (.int .i64 u)).drew.cell? ⟨b5, j * 2 + 1, none⟩ = some (.int .i64 (plN N ((exL N).getD j 0)))) := fun j hj => ⟨(gd.cell (p := ⟨b5, j * 2, none⟩) k4).trans (k3 j hj).1, (gd.cell (p := ⟨b5, j * 2 + 1, none⟩) k4).trans (k3 j hj).2⟩
        have K4 : b5 < ((wr.alloc (.cells #[.int .i64 x, .int .i64 y] 91)).setCell ⟨w2.heap.size, y, none⟩ (.int .i64 u)).drew.heap.size := Nat.lt_of_lt_of_le k4 gd.size
        have K5 : Hid (((wr.alloc (.cells #[.int .i64 x, .int .i64 y] 91)).setCell ⟨w2.heap.size, y, none⟩ (.int .i64 u)).drew.cell? ⟨w1.heap.size, 0, none⟩ = some (.int .i64 P) ∧ ((wr.alloc (.cells #[.int .i64 x, .int .i64 y] 91)).setCell ⟨w2.heap.size, y, none⟩ (.int .i64 u)).drew.cell? ⟨w1.heap.size, 1, none⟩ = some (.int .i64 N) ∧ ((wr.alloc (.cells #[.int .i64 x, .int .i64 y] 91)).setCell ⟨w2.heap.size, y, none⟩ (.int .i64 u)).drew.cell? ⟨w1.heap.size, 2, none⟩ = some (.int .i64 R)) := ⟨(gd.cell (p := ⟨w1.heap.size, 0, none⟩) hw1).trans k5, (gd.cell (p := ⟨w1.heap.size, 1, none⟩) hw1).trans k6, (gd.cell (p := ⟨w1.heap.size, 2, none⟩) hw1).trans k7⟩
        clear k1 k2 k3 k4 k5 k6 k7 gd hw1 KEY q0 q1 q2 q3 q4 x0 x1
        generalize ((wr.alloc (.cells #[.int .i64 x, .int .i64 y] 91)).setCell ⟨w2.heap.size, y, none⟩ (.int .i64 u)).drew = W9 at *
        go_wp2_with fail
        exact ⟨⟨k + 1, by omega, by go_num, K1, K2, K3, K4, K5⟩, by simp [intOf]; omega⟩
    · have d1 : decide ((k : Int) < (N : Int)) = false := by simp; omega
      obtain rfl : k = N := by omega
      obtain ⟨x0, x1, x2⟩ := RR.out
      have HF := HO.out.own (by rw [toZ_len]; exact HSL.out k)
      have CI' := CI.out wr _ (HT.out.old HG.out) (Own.row HF)
      clear HF
      go_wp2_with fail
      refine CI'.mono ?_
      rintro e w7 ⟨v7, rfl, g7, o7⟩
      have HG7 : Hid (Old w w7) := Old.trans HG.out g7
      have HO7 : Hid (Own w7 w.heap.size v7 (toZ zs)) := o7.low HG.out.size
      obtain ⟨a7, c7, e⟩ : ∃ a c, v7 = .slice a zs.length c := by
        obtain ⟨a, c, e⟩ := (Own.row o7).slice
        rw [toZ_len] at e
        exact ⟨a, c, e⟩
      subst e
      clear o7 g7 CI'
      go_wp2_with fail
      go_ret2
      exact ⟨_, rfl, HG7.out, HO7.out⟩
end Go.Proofs.YtpebikjckhcgfaaDoor
/- Proved: the contracts of the model's DecodeSlots and EncodeSlots. -/
namespace Go.Proofs.YtpebikjckhcgfaaDoor
open Go.ChangeShapes Go.WideShapes Go.ChangeAt Go.RowKit
set_option linter.unusedVariables false
set_option linter.unusedSimpArgs false
set_option maxRecDepth 100000 in
set_option maxHeartbeats 4000000 in
theorem spec_DecodeSlots_no1 (n p : Int) (v : Value) (xs : List Int) (w : World) (hv : Row w v xs) (cm : ∀ W, Old w W → Calls Tryd.prog 24 #[.int .i64 n, .int .i64 p] W fun e w' => e = .returned (.bool false) ∧ Old W w') :
    Calls Tryd.prog 32 #[.int .i64 n, .int .i64 p, v] w fun e w' => e = .returned (.tuple #[.slice none 0 0, .bool false]) ∧ Old w w' := by
  have HA : Hid (Old w (w.alloc (.cells #[.int .i64 p, .int .i64 n, .int .i64 0] 30))) := (Old.refl w).alloc _
  have q0 : (w.alloc (.cells #[.int .i64 p, .int .i64 n, .int .i64 0] 30)).cell? ⟨w.heap.size, 0, none⟩ = some (.int .i64 p) := (cell_at _ _ _ _ 0 rfl).trans rfl
  have q1 : (w.alloc (.cells #[.int .i64 p, .int .i64 n, .int .i64 0] 30)).cell? ⟨w.heap.size, 1, none⟩ = some (.int .i64 n) := (cell_at _ _ _ _ 1 rfl).trans rfl
  have q2 : (w.alloc (.cells #[.int .i64 p, .int .i64 n, .int .i64 0] 30)).cell? ⟨w.heap.size, 2, none⟩ = some (.int .i64 0) := (cell_at _ _ _ _ 2 rfl).trans rfl
  have CM := cm _ HA.out
  obtain ⟨a, c, e⟩ := hv.slice
  subst e
  clear hv cm
  go_enter Tryd.func32, Tryd.ntmps32
  go_wp2_with fail
  refine CM.mono ?_
  rintro e w1 ⟨rfl, g1⟩
  have HG : Hid (Old w w1) := Old.trans HA.out g1
  clear g1 q0 q1 q2
  go_wp2_with fail
  go_ret2
  exact ⟨rfl, HG.out⟩
set_option maxRecDepth 100000 in
set_option maxHeartbeats 4000000 in
theorem spec_DecodeSlots_no2 (n p : Int) (v : Value) (xs : List Int) (w : World) (hv : Row w v xs) (cm : ∀ W, Old w W → Calls Tryd.prog 24 #[.int .i64 n, .int .i64 p] W fun e w' => e = .returned (.bool true) ∧ Old W w') (cp : ∀ W, Old w W → Calls Tryd.prog 66 #[.agg #[.int .i64 p, .int .i64 n, .int .i64 0], v] W fun e w' => e = .returned (.bool false) ∧ Old W w') :
    Calls Tryd.prog 32 #[.int .i64 n, .int .i64 p, v] w fun e w' => e = .returned (.tuple #[.slice none 0 0, .bool false]) ∧ Old w w' := by
  have HA : Hid (Old w (w.alloc (.cells #[.int .i64 p, .int .i64 n, .int .i64 0] 30))) := (Old.refl w).alloc _
  have q0 : (w.alloc (.cells #[.int .i64 p, .int .i64 n, .int .i64 0] 30)).cell? ⟨w.heap.size, 0, none⟩ = some (.int .i64 p) := (cell_at _ _ _ _ 0 rfl).trans rfl
  have q1 : (w.alloc (.cells #[.int .i64 p, .int .i64 n, .int .i64 0] 30)).cell? ⟨w.heap.size, 1, none⟩ = some (.int .i64 n) := (cell_at _ _ _ _ 1 rfl).trans rfl
  have q2 : (w.alloc (.cells #[.int .i64 p, .int .i64 n, .int .i64 0] 30)).cell? ⟨w.heap.size, 2, none⟩ = some (.int .i64 0) := (cell_at _ _ _ _ 2 rfl).trans rfl
  have CM := cm _ HA.out
  obtain ⟨a, c, e⟩ := hv.slice
  subst e
  clear hv cm
  go_enter Tryd.func32, Tryd.ntmps32
  go_wp2_with fail
  refine CM.mono ?_
  rintro e w1 ⟨rfl, g1⟩
  have HG : Hid (Old w w1) := Old.trans HA.out g1
  have r0 := (g1.cell (p := ⟨w.heap.size, 0, none⟩) (by simp)).trans q0
  have r1 := (g1.cell (p := ⟨w.heap.size, 1, none⟩) (by simp)).trans q1
  have r2 := (g1.cell (p := ⟨w.heap.size, 2, none⟩) (by simp)).trans q2
  have CP := cp _ HG.out
  clear g1 q0 q1 q2 cp
  go_wp2_with fail
  refine CP.mono ?_
  rintro e w2 ⟨rfl, g2⟩
  have HG2 : Hid (Old w w2) := Old.trans HG.out g2
  clear g2 r0 r1 r2
  go_wp2_with fail
  go_ret2
  exact ⟨rfl, HG2.out⟩
set_option maxRecDepth 100000 in
set_option maxHeartbeats 4000000 in
theorem spec_EncodeSlots_no1 (n p : Int) (v : Value) (xs : List Int) (w : World) (hv : Row w v xs) (cm : ∀ W, Old w W → Calls Tryd.prog 24 #[.int .i64 n, .int .i64 p] W fun e w' => e = .returned (.bool false) ∧ Old W w') :
    Calls Tryd.prog 17 #[.int .i64 n, .int .i64 p, v] w fun e w' => e = .returned (.tuple #[.slice none 0 0, .bool false]) ∧ Old w w' := by
  have HA : Hid (Old w (w.alloc (.cells #[.int .i64 p, .int .i64 n, .int .i64 0] 30))) := (Old.refl w).alloc _
  have q0 : (w.alloc (.cells #[.int .i64 p, .int .i64 n, .int .i64 0] 30)).cell? ⟨w.heap.size, 0, none⟩ = some (.int .i64 p) := (cell_at _ _ _ _ 0 rfl).trans rfl
  have q1 : (w.alloc (.cells #[.int .i64 p, .int .i64 n, .int .i64 0] 30)).cell? ⟨w.heap.size, 1, none⟩ = some (.int .i64 n) := (cell_at _ _ _ _ 1 rfl).trans rfl
  have q2 : (w.alloc (.cells #[.int .i64 p, .int .i64 n, .int .i64 0] 30)).cell? ⟨w.heap.size, 2, none⟩ = some (.int .i64 0) := (cell_at _ _ _ _ 2 rfl).trans rfl
  have CM := cm _ HA.out
  obtain ⟨a, c, e⟩ := hv.slice
  subst e
  clear hv cm
  go_enter Tryd.func17, Tryd.ntmps17
  go_wp2_with fail
  refine CM.mono ?_
  rintro e w1 ⟨rfl, g1⟩
  have HG : Hid (Old w w1) := Old.trans HA.out g1
  clear g1 q0 q1 q2
  go_wp2_with fail
  go_ret2
  exact ⟨rfl, HG.out⟩
set_option maxRecDepth 100000 in
set_option maxHeartbeats 4000000 in
theorem spec_EncodeSlots_no2 (n p : Int) (v : Value) (xs : List Int) (w : World) (hv : Row w v xs) (cm : ∀ W, Old w W → Calls Tryd.prog 24 #[.int .i64 n, .int .i64 p] W fun e w' => e = .returned (.bool true) ∧ Old W w') (cp : ∀ W, Old w W → Calls Tryd.prog 66 #[.agg #[.int .i64 p, .int .i64 n, .int .i64 0], v] W fun e w' => e = .returned (.bool false) ∧ Old W w') :
    Calls Tryd.prog 17 #[.int .i64 n, .int .i64 p, v] w fun e w' => e = .returned (.tuple #[.slice none 0 0, .bool false]) ∧ Old w w' := by
  have HA : Hid (Old w (w.alloc (.cells #[.int .i64 p, .int .i64 n, .int .i64 0] 30))) := (Old.refl w).alloc _
  have q0 : (w.alloc (.cells #[.int .i64 p, .int .i64 n, .int .i64 0] 30)).cell? ⟨w.heap.size, 0, none⟩ = some (.int .i64 p) := (cell_at _ _ _ _ 0 rfl).trans rfl
  have q1 : (w.alloc (.cells #[.int .i64 p, .int .i64 n, .int .i64 0] 30)).cell? ⟨w.heap.size, 1, none⟩ = some (.int .i64 n) := (cell_at _ _ _ _ 1 rfl).trans rfl
  have q2 : (w.alloc (.cells #[.int .i64 p, .int .i64 n, .int .i64 0] 30)).cell? ⟨w.heap.size, 2, none⟩ = some (.int .i64 0) := (cell_at _ _ _ _ 2 rfl).trans rfl
  have CM := cm _ HA.out
  obtain ⟨a, c, e⟩ := hv.slice
  subst e
  clear hv cm
  go_enter Tryd.func17, Tryd.ntmps17
  go_wp2_with fail
  refine CM.mono ?_
  rintro e w1 ⟨rfl, g1⟩
  have HG : Hid (Old w w1) := Old.trans HA.out g1
  have r0 := (g1.cell (p := ⟨w.heap.size, 0, none⟩) (by simp)).trans q0
  have r1 := (g1.cell (p := ⟨w.heap.size, 1, none⟩) (by simp)).trans q1
  have r2 := (g1.cell (p := ⟨w.heap.size, 2, none⟩) (by simp)).trans q2
  have CP := cp _ HG.out
  clear g1 q0 q1 q2 cp
  go_wp2_with fail
  refine CP.mono ?_
  rintro e w2 ⟨rfl, g2⟩
  have HG2 : Hid (Old w w2) := Old.trans HG.out g2
  clear g2 r0 r1 r2
  go_wp2_with fail
  go_ret2
  exact ⟨rfl, HG2.out⟩
set_option maxRecDepth 100000 in
set_option maxHeartbeats 4000000 in
theorem spec_DecodeSlots_yes (N P R : Nat) (v : Value) (xs : List Int) (fs : List Nat) (w : World) (h : Sz4 N) (hv : Row w v xs) (hl : fs.length = N)
    (cm : ∀ W, Old w W → Calls Tryd.prog 24 #[.int .i64 N, .int .i64 P] W fun e w' => e = .returned (.bool true) ∧ Old W w')
    (cp : ∀ W, Old w W → Calls Tryd.prog 66 #[.agg #[.int .i64 P, .int .i64 N, .int .i64 0], v] W fun e w' => e = .returned (.bool true) ∧ Old W w')
    (cr : ∀ W, Calls Tryd.prog 67 #[.int .i64 P, .int .i64 N] W fun e w' => e = .returned (.tuple #[.agg #[.int .i64 P, .int .i64 N, .int .i64 R], .bool true]) ∧ Old W w')
    (cf : ∀ W, Old w W → Calls Tryd.prog 87 #[.agg #[.int .i64 P, .int .i64 N, .int .i64 R], v] W fun e w' => ∃ v', e = .returned v' ∧ Old W w' ∧ Own w' W.heap.size v' (toZ fs)) :
    Calls Tryd.prog 32 #[.int .i64 N, .int .i64 P, v] w fun e w' => ∃ v', e = .returned (.tuple #[v', .bool true]) ∧ Old w w' ∧ Own w' w.heap.size v' (toZ ((plL N).map fun k => fs.getD k 0)) := by
  obtain ⟨i0, hi, hz0, hz1, hz2⟩ := info_parts Tryd.infoInt
  have hb := sz_bd h
  have c4 := fun W => spec_l10Places N W h
  have hpl := plL_len h
  have HPB : Hid (∀ k, k < N → (plL N).getD k 0 < N) := fun k hk => plL_bd h k hk
  have HTK : Hid (∀ k, k < N → (toZ ((plL N).map fun k => fs.getD k 0)).take (k + 1) = (toZ ((plL N).map fun k => fs.getD k 0)).take k ++ [((fs.getD ((plL N).getD k 0) 0 : Nat) : Int)]) := fun k hk => by
    rw [take_succI _ k (by rw [toZ_len, List.length_map, hpl]; exact hk), toZ_get]
    have : k < (plL N).length := by rw [hpl]; exact hk
    simp [List.getD, this]
  have HZL : Hid ((toZ ((plL N).map fun k => fs.getD k 0)).length = N) := by show _ = _; rw [toZ_len, List.length_map, hpl]
  have HFL : Hid (fs.length = N) := hl
  generalize toZ ((plL N).map fun k => fs.getD k 0) = zs at *
  obtain ⟨a, c, e⟩ := hv.slice
  subst e
  clear hv h hl
  have HA : Hid (Old w (w.alloc (.cells #[.int .i64 P, .int .i64 N, .int .i64 0] 30))) := (Old.refl w).alloc _
  have HB0 : Hid ((w.alloc (.cells #[.int .i64 P, .int .i64 N, .int .i64 0] 30)).heap[w.heap.size]? = some (.cells #[.int .i64 P, .int .i64 N, .int .i64 0] 30 (0, 0))) := heap_alloc_new w _
  have q0 : (w.alloc (.cells #[.int .i64 P, .int .i64 N, .int .i64 0] 30)).cell? ⟨w.heap.size, 0, none⟩ = some (.int .i64 P) := (cell_at _ _ _ _ 0 rfl).trans rfl
  have q1 : (w.alloc (.cells #[.int .i64 P, .int .i64 N, .int .i64 0] 30)).cell? ⟨w.heap.size, 1, none⟩ = some (.int .i64 N) := (cell_at _ _ _ _ 1 rfl).trans rfl
  have q2 : (w.alloc (.cells #[.int .i64 P, .int .i64 N, .int .i64 0] 30)).cell? ⟨w.heap.size, 2, none⟩ = some (.int .i64 0) := (cell_at _ _ _ _ 2 rfl).trans rfl
  have CM := cm _ HA.out
  clear cm
  go_enter Tryd.func32, Tryd.ntmps32
  go_wp2_with fail
  refine CM.mono ?_
  rintro e w1 ⟨rfl, g1⟩
  have HG : Hid (Old w w1) := Old.trans HA.out g1
  have HB1 : Hid (w1.heap[w.heap.size]? = some (.cells #[.int .i64 P, .int .i64 N, .int .i64 0] 30 (0, 0))) := (g1.block w.heap.size (lt_of_some HB0.out)).trans HB0.out
  have r0 := (g1.cell (p := ⟨w.heap.size, 0, none⟩) (by simp)).trans q0
  have r1 := (g1.cell (p := ⟨w.heap.size, 1, none⟩) (by simp)).trans q1
  have r2 := (g1.cell (p := ⟨w.heap.size, 2, none⟩) (by simp)).trans q2
  have CP := cp _ HG.out
  clear g1 q0 q1 q2 cp HB0 CM
  go_wp2_with fail
  refine CP.mono ?_
  rintro e w2 ⟨rfl, g2⟩
  have HG2 : Hid (Old w w2) := Old.trans HG.out g2
  have HB2 : Hid (w2.heap[w.heap.size]? = some (.cells #[.int .i64 P, .int .i64 N, .int .i64 0] 30 (0, 0))) := (g2.block w.heap.size (lt_of_some HB1.out)).trans HB1.out
  clear g2 r0 r1 r2 HB1 CP HG
  go_wp2_with fail
  refine (cr _).mono ?_
  rintro e w3 ⟨rfl, g3⟩
  have HG3 : Hid (Old w w3) := Old.trans HG2.out g3
  have HB3 : w3.heap[w.heap.size]? = some (.cells #[.int .i64 P, .int .i64 N, .int .i64 0] 30 (0, 0)) := (g3.block w.heap.size (lt_of_some HB2.out)).trans HB2.out
  have s0 : w3.cell? ⟨w.heap.size, 0, none⟩ = some (.int .i64 P) := (cell_of_row _ _ _ _ _ _ HB3).trans rfl
  have s1 : w3.cell? ⟨w.heap.size, 1, none⟩ = some (.int .i64 N) := (cell_of_row _ _ _ _ _ _ HB3).trans rfl
  have s2 : w3.cell? ⟨w.heap.size, 2, none⟩ = some (.int .i64 0) := (cell_of_row _ _ _ _ _ _ HB3).trans rfl
  have t0 : w3.frozen? ⟨w.heap.size, 0, none⟩ = false := frozen_of_row HB3 0
  have t1 : w3.frozen? ⟨w.heap.size, 1, none⟩ = false := frozen_of_row HB3 1
  have t2 : w3.frozen? ⟨w.heap.size, 2, none⟩ = false := frozen_of_row HB3 2
  have HG4 : Hid (Old w (((w3.setCell ⟨w.heap.size, 0, none⟩ (.int .i64 P)).setCell ⟨w.heap.size, 1, none⟩ (.int .i64 N)).setCell ⟨w.heap.size, 2, none⟩ (.int .i64 R))) := ((HG3.out.own (p := ⟨w.heap.size, 0, none⟩) (Nat.le_refl _) _).own (p := ⟨w.heap.size, 1, none⟩) (Nat.le_refl _) _).own (p := ⟨w.heap.size, 2, none⟩) (Nat.le_refl _) _
  have hw3 : w.heap.size < w3.heap.size := lt_of_some HB3
  have HB4 : (((w3.setCell ⟨w.heap.size, 0, none⟩ (.int .i64 P)).setCell ⟨w.heap.size, 1, none⟩ (.int .i64 N)).setCell ⟨w.heap.size, 2, none⟩ (.int .i64 R)).heap[w.heap.size]? = some (.cells #[.int .i64 P, .int .i64 N, .int .i64 R] 30 (0, 0)) := heap_setCell_same _ _ _ _ _ _ (heap_setCell_same _ _ _ _ _ _ (heap_setCell_same _ _ _ _ _ _ HB3))
  have R4 : Hid (Rc (((w3.setCell ⟨w.heap.size, 0, none⟩ (.int .i64 P)).setCell ⟨w.heap.size, 1, none⟩ (.int .i64 N)).setCell ⟨w.heap.size, 2, none⟩ (.int .i64 R)) w.heap.size P N R) := ⟨lt_of_some HB4, (cell_of_row _ _ _ _ _ _ HB4).trans rfl, (cell_of_row _ _ _ _ _ _ HB4).trans rfl, (cell_of_row _ _ _ _ _ _ HB4).trans rfl⟩
  clear g3 HB3 HB4 HB2 HG2 HG3
  obtain ⟨w4, hw4⟩ : ∃ w4, w4 = (((w3.setCell ⟨w.heap.size, 0, none⟩ (.int .i64 P)).setCell ⟨w.heap.size, 1, none⟩ (.int .i64 N)).setCell ⟨w.heap.size, 2, none⟩ (.int .i64 R)) := ⟨_, rfl⟩
  rw [← hw4] at HG4 R4
  have x0 := R4.out.c0
  have x1 := R4.out.c1
  have x2 := R4.out.c2
  rw [hw4] at x0 x1 x2
  have CFF := cf _ HG4.out
  rw [hw4] at CFF
  clear cf
  go_wp2_with fail
  refine CFF.mono ?_
  rintro e w5 ⟨v5, rfl, g5, o5⟩
  rw [← hw4] at g5
  have HG5 : Hid (Old w w5) := Old.trans HG4.out g5
  obtain ⟨b5, o5', cap5, rfl, hb5, hc5⟩ := (Own.row o5).atZ (by rw [HFL.out]; omega)
  rw [HFL.out] at hc5 ⊢
  have HC5 : Hid (∀ j, j < N → w5.cell? ⟨b5, o5' + j, none⟩ = some (.int .i64 ((fs.getD j 0 : Nat) : Int))) := hc5
  clear o5 g5 hc5 CFF x0 x1 x2 R4 HG4 s0 s1 s2 t0 t1 t2 hw4
  go_wp2_with fail
  refine (c4 _).mono ?_
  rintro e w6 ⟨v6, rfl, g6, o6⟩
  have HG6 : Hid (Old w w6) := Old.trans HG5.out g6
  obtain ⟨b6, o6', cap6, rfl, hb6, hc6⟩ := (Own.row o6).atZ (by omega)
  rw [hpl] at hc6 ⊢
  generalize plL N = ps at *
  have HC6 : Hid (∀ j, j < N → w6.cell? ⟨b6, o6' + j, none⟩ = some (.int .i64 ((ps.getD j 0 : Nat) : Int))) := hc6
  have HC5' : Hid (∀ j, j < N → w6.cell? ⟨b5, o5' + j, none⟩ = some (.int .i64 ((fs.getD j 0 : Nat) : Int))) := fun j hj => (g6.cell (p := ⟨b5, o5' + j, none⟩) hb5).trans (HC5.out j hj)
  have hb5' : b5 < w6.heap.size := Nat.lt_of_lt_of_le hb5 g6.size
  clear o6 g6 hc6 HC5 HG5 hb5
  go_wp2_with fail
  go_loopw [10, 38] (fun v i W => ∃ (k : Nat) (a : Option Addr) (cap : Nat), k ≤ N ∧ i = .int .i64 k ∧ v = .slice a k cap ∧ Hid (Own W w6.heap.size (.slice a k cap) (zs.take k)) ∧ Hid (Old w6 W)) (fun _ i _ => N - (intOf i).toNat)
  case atStart => exact ⟨0, none, 0, by omega, rfl, rfl, (by exact own_nil _ _), Old.refl _⟩
  case round =>
    obtain ⟨k, a, cap, hk, rfl, rfl, HO1, HG4⟩ := hrel
    have hs4 := HG4.out.size
    by_cases hlt : k < N
    · have d1 : decide ((k : Int) < (N : Int)) = true := by simp; omega
      have ki : (k : Int) < (N : Int) := by omega
      have x0 := (HG4.out.cell (p := ⟨b6, o6' + k, none⟩) hb6).trans (HC6.out k hlt)
      have hpb := HPB.out k hlt
      have x1 := (HG4.out.cell (p := ⟨b5, o5' + ps.getD k 0, none⟩) hb5').trans (HC5'.out _ hpb)
      have HT2 : Hid (zs.take (k + 1) = zs.take k ++ [((fs.getD (ps.getD k 0) 0 : Nat) : Int)]) := HTK.out k hlt
      have htk : (zs.take k).length = k := by rw [List.length_take, HZL.out]; omega
      have htk1 : (zs.take (k + 1)).length = k + 1 := by rw [List.length_take, HZL.out]; omega
      generalize ps.getD k 0 = y at *
      generalize fs.getD y 0 = x at *
      have yi : (y : Int) < (N : Int) := by omega
      go_wp2_with (at_builtin; refine wpList_append_own _ rfl _ _ 23 rfl w6.heap.size 3 i0 (.int .i64 0) 1 8 Tryd.underlying23 hi hz0 hz1 hz2 rfl (by decide) _ _ _ rfl (by have := HO1.out.alloc (.cells #[.int .i64 (x : Int)] 3); unfold Own at this; rw [htk] at this; exact this) ⟨wr.heap.size, 0, none⟩ 1 1 [.int .i64 (x : Int)] rfl rfl (one_cell _ _ _) (one_one _) (by unfold maxLen; omega) (by omega) (by simp; omega) ?_; intro v5 w5 o5 g5 x5; have O5 : Hid (Own w5 w6.heap.size v5 (zs.take (k + 1))) := (by have := HT2.out; show Own _ _ _ _; rw [this]; exact Own.snoc (by rw [htk]; exact o5)); have G5 : Hid (Old w6 w5) := Below.grown (HG4.out.alloc (.cells #[.int .i64 (x : Int)] 3)) g5 (HG4.out.alloc (.cells #[.int .i64 (x : Int)] 3)).size (fun j hj => (HO1.out.lt j hj).1); clear o5 g5 x5)
      obtain ⟨a5, cap5, rfl⟩ := (Own.row O5.out).slice
      rw [htk1] at O5 ⊢
      exact ⟨⟨k + 1, _, _, by omega, by go_num, rfl, O5, G5⟩, by simp [intOf]; omega⟩
    · have d1 : decide ((k : Int) < (N : Int)) = false := by simp; omega
      obtain rfl : k = N := by omega
      have HF : Hid (Own wr w.heap.size (.slice a k cap) zs) := by
        have := HO1.out
        rw [List.take_of_length_le (by rw [HZL.out]; exact Nat.le_refl _)] at this
        exact this.low HG6.out.size
      go_wp2_with fail
      go_ret2
      exact ⟨_, rfl, Old.trans HG6.out HG4.out, HF.out⟩
end Go.Proofs.YtpebikjckhcgfaaDoor
/- Proved: the contracts of the model's EncodeSlots. -/
namespace Go.Proofs.YtpebikjckhcgfaaDoor
open Go.ChangeShapes Go.WideShapes Go.ChangeAt Go.RowKit
set_option linter.unusedVariables false
set_option linter.unusedSimpArgs false
set_option maxRecDepth 100000 in
set_option maxHeartbeats 4000000 in
theorem spec_EncodeSlots_yes (N P R : Nat) (v : Value) (xs zs : List Nat) (w : World) (h : Sz4 N) (hv : Row w v (toZ xs)) (hl : xs.length = N)
    (cm : ∀ W, Old w W → Calls Tryd.prog 24 #[.int .i64 N, .int .i64 P] W fun e w' => e = .returned (.bool true) ∧ Old W w')
    (cp : ∀ W, Old w W → Calls Tryd.prog 66 #[.agg #[.int .i64 P, .int .i64 N, .int .i64 0], v] W fun e w' => e = .returned (.bool true) ∧ Old W w')
    (cr : ∀ W, Calls Tryd.prog 67 #[.int .i64 P, .int .i64 N] W fun e w' => e = .returned (.tuple #[.agg #[.int .i64 P, .int .i64 N, .int .i64 R], .bool true]) ∧ Old W w')
    (ci : ∀ W u, Row W u (toZ (enS N xs N)) → Calls Tryd.prog 69 #[.agg #[.int .i64 P, .int .i64 N, .int .i64 R], u] W fun e w' => ∃ v', e = .returned v' ∧ Old W w' ∧ Own w' W.heap.size v' (toZ zs)) :
    Calls Tryd.prog 17 #[.int .i64 N, .int .i64 P, v] w fun e w' => ∃ v', e = .returned (.tuple #[v', .bool true]) ∧ Old w w' ∧ Own w' w.heap.size v' (toZ zs) := by
  obtain ⟨i0, hi, hz0, hz1, hz2⟩ := info_parts Tryd.infoInt
  have hb := sz_bd h
  have c4 := fun W => spec_l10Places N W h
  have hpl := plL_len h
  have HPB : Hid (∀ k, k < N → (plL N).getD k 0 < N) := fun k hk => plL_bd h k hk
  have HS : Hid (∀ k, enS N xs (k + 1) = (enS N xs k).set ((plL N).getD k 0) (xs.getD k 0)) := fun k => rfl
  have HSL : Hid (∀ k, (enS N xs k).length = N) := enS_len N xs
  have HS0 : Hid (enS N xs 0 = List.replicate N 0) := rfl
  have CI : Hid (∀ W u, Row W u (toZ (enS N xs N)) → Calls Tryd.prog 69 #[.agg #[.int .i64 P, .int .i64 N, .int .i64 R], u] W fun e w' => ∃ v', e = .returned v' ∧ Old W w' ∧ Own w' W.heap.size v' (toZ zs)) := ci
  generalize enS N xs = EN at *
  obtain ⟨bx, ox, capx, e, hbx, hcx⟩ := hv.atZ (by omega)
  rw [hl] at e hcx
  subst e
  have HX : Hid (∀ j, j < N → w.cell? ⟨bx, ox + j, none⟩ = some (.int .i64 ((xs.getD j 0 : Nat) : Int))) := hcx
  clear hv h hl hcx ci
  have HA : Hid (Old w (w.alloc (.cells #[.int .i64 P, .int .i64 N, .int .i64 0] 30))) := (Old.refl w).alloc _
  have HB0 : Hid ((w.alloc (.cells #[.int .i64 P, .int .i64 N, .int .i64 0] 30)).heap[w.heap.size]? = some (.cells #[.int .i64 P, .int .i64 N, .int .i64 0] 30 (0, 0))) := heap_alloc_new w _
  have q0 : (w.alloc (.cells #[.int .i64 P, .int .i64 N, .int .i64 0] 30)).cell? ⟨w.heap.size, 0, none⟩ = some (.int .i64 P) := (cell_at _ _ _ _ 0 rfl).trans rfl
  have q1 : (w.alloc (.cells #[.int .i64 P, .int .i64 N, .int .i64 0] 30)).cell? ⟨w.heap.size, 1, none⟩ = some (.int .i64 N) := (cell_at _ _ _ _ 1 rfl).trans rfl
  have q2 : (w.alloc (.cells #[.int .i64 P, .int .i64 N, .int .i64 0] 30)).cell? ⟨w.heap.size, 2, none⟩ = some (.int .i64 0) := (cell_at _ _ _ _ 2 rfl).trans rfl
  have CM := cm _ HA.out
  clear cm
  go_enter Tryd.func17, Tryd.ntmps17
  go_wp2_with fail
  refine CM.mono ?_
  rintro e w1 ⟨rfl, g1⟩
  have HG : Hid (Old w w1) := Old.trans HA.out g1
  have HB1 : Hid (w1.heap[w.heap.size]? = some (.cells #[.int .i64 P, .int .i64 N, .int .i64 0] 30 (0, 0))) := (g1.block w.heap.size (lt_of_some HB0.out)).trans HB0.out
  have r0 := (g1.cell (p := ⟨w.heap.size, 0, none⟩) (by simp)).trans q0
  have r1 := (g1.cell (p := ⟨w.heap.size, 1, none⟩) (by simp)).trans q1
  have r2 := (g1.cell (p := ⟨w.heap.size, 2, none⟩) (by simp)).trans q2
  have CP := cp _ HG.out
  clear g1 q0 q1 q2 cp HB0 CM
  go_wp2_with fail
  refine CP.mono ?_
  rintro e w2 ⟨rfl, g2⟩
  have HG2 : Hid (Old w w2) := Old.trans HG.out g2
  have HB2 : Hid (w2.heap[w.heap.size]? = some (.cells #[.int .i64 P, .int .i64 N, .int .i64 0] 30 (0, 0))) := (g2.block w.heap.size (lt_of_some HB1.out)).trans HB1.out
  clear g2 r0 r1 r2 HB1 CP HG
  go_wp2_with fail
  refine (cr _).mono ?_
  rintro e w3 ⟨rfl, g3⟩
  have HG3 : Hid (Old w w3) := Old.trans HG2.out g3
  have HB3 : w3.heap[w.heap.size]? = some (.cells #[.int .i64 P, .int .i64 N, .int .i64 0] 30 (0, 0)) := (g3.block w.heap.size (lt_of_some HB2.out)).trans HB2.out
  have s0 : w3.cell? ⟨w.heap.size, 0, none⟩ = some (.int .i64 P) := (cell_of_row _ _ _ _ _ _ HB3).trans rfl
  have s1 : w3.cell? ⟨w.heap.size, 1, none⟩ = some (.int .i64 N) := (cell_of_row _ _ _ _ _ _ HB3).trans rfl
  have s2 : w3.cell? ⟨w.heap.size, 2, none⟩ = some (.int .i64 0) := (cell_of_row _ _ _ _ _ _ HB3).trans rfl
  have t0 : w3.frozen? ⟨w.heap.size, 0, none⟩ = false := frozen_of_row HB3 0
  have t1 : w3.frozen? ⟨w.heap.size, 1, none⟩ = false := frozen_of_row HB3 1
  have t2 : w3.frozen? ⟨w.heap.size, 2, none⟩ = false := frozen_of_row HB3 2
  have HG4 : Hid (Old w (((w3.setCell ⟨w.heap.size, 0, none⟩ (.int .i64 P)).setCell ⟨w.heap.size, 1, none⟩ (.int .i64 N)).setCell ⟨w.heap.size, 2, none⟩ (.int .i64 R))) := ((HG3.out.own (p := ⟨w.heap.size, 0, none⟩) (Nat.le_refl _) _).own (p := ⟨w.heap.size, 1, none⟩) (Nat.le_refl _) _).own (p := ⟨w.heap.size, 2, none⟩) (Nat.le_refl _) _
  have hw3 : w.heap.size < w3.heap.size := lt_of_some HB3
  have HB4 : (((w3.setCell ⟨w.heap.size, 0, none⟩ (.int .i64 P)).setCell ⟨w.heap.size, 1, none⟩ (.int .i64 N)).setCell ⟨w.heap.size, 2, none⟩ (.int .i64 R)).heap[w.heap.size]? = some (.cells #[.int .i64 P, .int .i64 N, .int .i64 R] 30 (0, 0)) := heap_setCell_same _ _ _ _ _ _ (heap_setCell_same _ _ _ _ _ _ (heap_setCell_same _ _ _ _ _ _ HB3))
  have R4 : Hid (Rc (((w3.setCell ⟨w.heap.size, 0, none⟩ (.int .i64 P)).setCell ⟨w.heap.size, 1, none⟩ (.int .i64 N)).setCell ⟨w.heap.size, 2, none⟩ (.int .i64 R)) w.heap.size P N R) := ⟨lt_of_some HB4, (cell_of_row _ _ _ _ _ _ HB4).trans rfl, (cell_of_row _ _ _ _ _ _ HB4).trans rfl, (cell_of_row _ _ _ _ _ _ HB4).trans rfl⟩
  clear g3 HB3 HB4 HB2 HG2 HG3
  obtain ⟨w4, hw4⟩ : ∃ w4, w4 = (((w3.setCell ⟨w.heap.size, 0, none⟩ (.int .i64 P)).setCell ⟨w.heap.size, 1, none⟩ (.int .i64 N)).setCell ⟨w.heap.size, 2, none⟩ (.int .i64 R)) := ⟨_, rfl⟩
  rw [← hw4] at HG4 R4
  have x0 := R4.out.c0
  have x1 := R4.out.c1
  have x2 := R4.out.c2
  rw [hw4] at x0 x1 x2
  have g40 : Old w4 w4 := Old.refl _
  rw [hw4] at g40
  clear x0 x1 x2
  have hsz4 : w4.heap.size = (((w3.setCell ⟨w.heap.size, 0, none⟩ (.int .i64 P)).setCell ⟨w.heap.size, 1, none⟩ (.int .i64 N)).setCell ⟨w.heap.size, 2, none⟩ (.int .i64 R)).heap.size := by rw [hw4]
  go_wp2_with (at_make; refine wpList_make_full _ rfl _ _ 23 rfl (((w3.setCell ⟨w.heap.size, 0, none⟩ (.int .i64 P)).setCell ⟨w.heap.size, 1, none⟩ (.int .i64 N)).setCell ⟨w.heap.size, 2, none⟩ (.int .i64 R)).heap.size 3 i0 (.int .i64 0) 1 Tryd.underlying23 hi hz0 hz1 .i64 .i64 _ _ N rfl rfl rfl rfl (by rw [hz2]; omega) (by unfold maxLen; omega) (Nat.le_refl _) ?_; intro w5 hown hgrow; rw [← hw4] at hown hgrow ⊢)
  have HO5 : Hid (OwnI w5 w4.heap.size w4.heap.size N (toZ (EN 0))) := by
    have h5 := OwnI.new w4 w5 N hown
    show OwnI _ _ _ _ _
    rw [HS0.out]
    simpa using h5
  have g5 : Old w4 w5 := Below.grown (Below.refl _ _) hgrow (Nat.le_refl _) (fun _ h => by cases h)
  have HG5 : Hid (Old w w5) := Old.trans HG4.out g5
  have R5 : Hid (Rc w5 w.heap.size P N R) := R4.out.old g5
  have hs5 : w4.heap.size < w5.heap.size := own_ltI HO5.out
  have hs45 : w.heap.size < w4.heap.size := R4.out.lt
  have e43 : w4.heap.size = w3.heap.size := by rw [hw4]; simp
  rw [e43] at HO5 hs5 hs45
  clear hown hgrow R4 g5 HG4 g40 hsz4 s0 s1 s2 t0 t1 t2 hw4 e43
  refine (c4 _).mono ?_
  rintro e w6 ⟨v6, rfl, g6, o6⟩
  have HG6 : Hid (Old w w6) := Old.trans HG5.out g6
  obtain ⟨b6, o6', cap6, rfl, hb6, hc6⟩ := (Own.row o6).atZ (by omega)
  have hs6 : w5.heap.size ≤ b6 := (o6.lt b6 rfl).1
  rw [hpl] at hc6 ⊢
  generalize plL N = ps at *
  have HC6 : Hid (∀ j, j < N → w6.cell? ⟨b6, o6' + j, none⟩ = some (.int .i64 ((ps.getD j 0 : Nat) : Int))) := hc6
  have HO6 : Hid (OwnI w6 w3.heap.size w3.heap.size N (toZ (EN 0))) := HO5.out.old g6
  have R6 : Hid (Rc w6 w.heap.size P N R) := R5.out.old g6
  clear o6 g6 hc6 HO5 HG5 R5
  go_wp2_with fail
  go_loopw [36] (fun i W => ∃ k : Nat, k ≤ N ∧ i = .int .i64 k ∧ Hid (OwnI W w3.heap.size w3.heap.size N (toZ (EN k))) ∧ Hid (Old w W) ∧ Hid (∀ j, j < N → W.cell? ⟨b6, o6' + j, none⟩ = some (.int .i64 ((ps.getD j 0 : Nat) : Int))) ∧ Hid (Rc W w.heap.size P N R)) (fun i _ => N - (intOf i).toNat)
  case atStart => exact ⟨0, by omega, rfl, HO6, HG6, HC6, R6⟩
  case round =>
    obtain ⟨k, hk, rfl, HO, HG, HC, RR⟩ := hrel
    clear HO6 HG6 HC6 R6 hb6
    by_cases hlt : k < N
    · have d1 : decide ((k : Int) < (N : Int)) = true := by simp; omega
      have ki : (k : Int) < (N : Int) := by omega
      have x0 := HC.out k hlt
      have HST : Hid (EN (k + 1) = (EN k).set (ps.getD k 0) (xs.getD k 0)) := HS.out k
      have hpb := HPB.out k hlt
      have hx := (HG.out.cell (p := ⟨bx, ox + k, none⟩) hbx).trans (HX.out k hlt)
      have HFL : Hid ((toZ (EN k)).length = N) := by
        show _ = _
        rw [toZ_len]
        exact HSL.out k
      generalize ps.getD k 0 = y at *
      generalize xs.getD k 0 = u at *
      have yi : (y : Int) < (N : Int) := by omega
      have q3 := HO.out.get HFL.out y hpb
      have q4 := HO.out.free y
      generalize (toZ (EN k)).getD y 0 = old at *
      have K1 : Hid (OwnI (wr.setCell ⟨w3.heap.size, y, none⟩ (.int .i64 u)) w3.heap.size w3.heap.size N (toZ (EN (k + 1)))) := by
        have h6 := HO.out.put y u
        show OwnI _ _ _ _ _
        rw [HST.out, show toZ ((EN k).set y u) = (toZ (EN k)).set y (u : Int) from by simp [toZ, List.map_set]]
        exact h6
      have K2 : Hid (Old w (wr.setCell ⟨w3.heap.size, y, none⟩ (.int .i64 u))) := HG.out.own (p := ⟨w3.heap.size, y, none⟩) (show w.heap.size ≤ w3.heap.size by omega) _
      have hne : b6 ≠ w3.heap.size := by omega
      have hne1 : w.heap.size ≠ w3.heap.size := by omega
      have K3 : Hid (∀ j, j < N → (wr.setCell ⟨w3.heap.size, y, none⟩ (.int .i64 u)).cell? ⟨b6, o6' + j, none⟩ = some (.int .i64 ((ps.getD j 0 : Nat) : Int))) := fun j hj => by
        rw [cellOS _ _ _ _ hne]
        exact HC.out j hj
      have K4 : Hid (Rc (wr.setCell ⟨w3.heap.size, y, none⟩ (.int .i64 u)) w.heap.size P N R) := ⟨by simpa using RR.out.lt, by rw [cellOS _ _ _ _ hne1]; exact RR.out.c0, by rw [cellOS _ _ _ _ hne1]; exact RR.out.c1, by rw [cellOS _ _ _ _ hne1]; exact RR.out.c2⟩
      clear HO HC HG RR HST hne hne1
      go_wp2_with fail
      exact ⟨⟨k + 1, by omega, by go_num, K1, K2, K3, K4⟩, by simp [intOf]; omega⟩
    · have d1 : decide ((k : Int) < (N : Int)) = false := by simp; omega
      obtain rfl : k = N := by omega
      have x0 := RR.out.c0
      have x1 := RR.out.c1
      have x2 := RR.out.c2
      have HF := HO.out.own (by rw [toZ_len]; exact HSL.out k)
      have CI' := CI.out wr _ (Own.row HF)
      clear HF
      go_wp2_with fail
      refine CI'.mono ?_
      rintro e w7 ⟨v7, rfl, g7, o7⟩
      have HG7 : Hid (Old w w7) := Old.trans HG.out g7
      have HO7 : Hid (Own w7 w.heap.size v7 (toZ zs)) := o7.low HG.out.size
      obtain ⟨a7, c7, e⟩ : ∃ a c, v7 = .slice a zs.length c := by
        obtain ⟨a, c, e⟩ := (Own.row o7).slice
        rw [toZ_len] at e
        exact ⟨a, c, e⟩
      subst e
      clear o7 g7 CI'
      go_wp2_with fail
      go_ret2
      exact ⟨_, rfl, HG7.out, HO7.out⟩
end Go.Proofs.YtpebikjckhcgfaaDoor
