/- Proved: contracts of RingOf, of the program and of the model: both answer one and the same ring at a prime modulus for whose size a root is there, and none otherwise. -/
import Derived.Test.YtplaaglckbfklaaDoorRoot
import Derived.Test.YtplaaglckbfklaaDoorRow
namespace Go.Proofs.YtplaaglckbfklaaDoor
open Go.ChangeShapes Go.WideShapes Go.ChangeAt Go.RowKit
open M1
set_option linter.unusedVariables false
def rgB (n : Int) : Bool := inB n 2 16 && (bits BinOp.and IntKind.i64 n (n - 1) == 0)
theorem rg_four : ∀ n : Nat, n < 17 → 2 ≤ n → n &&& (n - 1) = 0 → n = 2 ∨ n = 4 ∨ n = 8 ∨ n = 16 := by decide
theorem rgB_yes {n : Int} (h : rgB n = true) : n = 2 ∨ n = 4 ∨ n = 8 ∨ n = 16 := by
  simp only [rgB, Bool.and_eq_true] at h
  obtain ⟨h1, h2⟩ := h
  obtain ⟨h3, h4⟩ := inB_out h1
  obtain ⟨m, rfl⟩ := Int.eq_ofNat_of_zero_le (show 0 ≤ n by omega)
  have e : (m : Int) - 1 = ((m - 1 : Nat) : Int) := by omega
  rw [e, and_nat m (m - 1) (by omega) (by omega)] at h2
  have h5 := beq_iff_eq.1 h2
  rcases rg_four m (by omega) (by omega) (by omega) with h | h | h | h <;> omega
theorem rgB_mk {n : Int} (h : n = 2 ∨ n = 4 ∨ n = 8 ∨ n = 16) : rgB n = true := by
  rcases h with rfl | rfl | rfl | rfl <;> decide +kernel
theorem ord2 {n : Int} (h : n = 2 ∨ n = 4 ∨ n = 8 ∨ n = 16) : ordB (2 * n) = true := by
  rcases h with rfl | rfl | rfl | rfl <;> decide +kernel
theorem impl_isSize (n : Int) (w : World) :
    Calls Tryd.prog 108 #[.int .i64 n] w fun e w' => e = .returned (.bool (rgB n)) ∧ w' = w := by
  cases h : inB n 2 16
  · have ho : rgB n = false := by simp [rgB, h]
    rw [ho]
    rcases inB_not h with h1 | ⟨h1, h2⟩
    · clear h ho
      have d : decide (2 ≤ n) = false := by simp; omega
      go_enter Tryd.func108, Tryd.ntmps108
      go_wp2
      go_ret
      exact ⟨rfl, rfl⟩
    · clear h ho
      have d : decide (n ≤ 16) = false := by simp; omega
      go_enter Tryd.func108, Tryd.ntmps108
      go_wp2
      go_ret
      exact ⟨rfl, rfl⟩
  · have ho : rgB n = (bits BinOp.and IntKind.i64 n (n - 1) == 0) := by simp [rgB, h]
    rw [ho]
    obtain ⟨h1, h2⟩ := inB_out h
    clear h ho
    have d : decide (n ≤ 16) = true := by simp; omega
    have d2 : decide (2 ≤ n) = true := by simp; omega
    go_enter Tryd.func108, Tryd.ntmps108
    go_wp2
    go_ret
    exact ⟨rfl, rfl⟩
theorem spec_isSize (n : Int) (w : World) :
    Calls Tryd.prog 194 #[.int .i64 n] w fun e w' => e = .returned (.bool (rgB n)) ∧ w' = w := by
  have c : ∀ W, Calls Tryd.prog 210 #[.int .i64 n, .int .i64 2, .int .i64 16] W fun e w' => e = .returned (.bool (rgB n)) ∧ w' = W := by
    intro w
    cases h : inB n 2 16
    · have ho : rgB n = false := by simp [rgB, h]
      rw [ho]
      clear ho
      go_enter Tryd.func210, Tryd.ntmps210
      go_wp2_with (go_at_call 114; refine (spec_in _ _ _ _).mono ?_; rintro e w' ⟨rfl, rfl⟩)
      go_ret
      exact ⟨rfl, rfl⟩
    · have ho : rgB n = (bits BinOp.and IntKind.i64 n (n - 1) == 0) := by simp [rgB, h]
      rw [ho]
      obtain ⟨h1, h2⟩ := inB_out h
      clear ho
      go_enter Tryd.func210, Tryd.ntmps210
      go_wp2_with (go_at_call 114; refine (spec_in _ _ _ _).mono ?_; rintro e w' ⟨rfl, rfl⟩)
      go_ret
      exact ⟨rfl, rfl⟩
  generalize rgB n = B at *
  go_enter Tryd.func194, Tryd.ntmps194
  go_wp2_with fail
  refine (c _).mono ?_
  rintro e w' ⟨rfl, rfl⟩
  go_wp2_with fail
  go_ret
  exact ⟨rfl, rfl⟩
/-- where RingOf answers -/
structure RingOk (p n : Int) : Prop where
  sz : n = 2 ∨ n = 4 ∨ n = 8 ∨ n = 16
  md : modB p = true
  pr : isP p.toNat = true
  dv : (p - 1) % (2 * n) = 0
theorem RingOk.root {p n : Int} (h : RingOk p n) : RootOk p (2 * n) := ⟨ord2 h.sz, h.md, h.pr, h.dv⟩
theorem RingOk.of_root {p n : Int} (hs : n = 2 ∨ n = 4 ∨ n = 8 ∨ n = 16) (h : RootOk p (2 * n)) : RingOk p n := ⟨hs, h.md, h.pr, h.dv⟩
abbrev ring0 : Array Value := #[.int .i64 0, .int .i64 0, .int .i64 0]
theorem impl_RingOf_no (p n : Int) (w : World) (hP : PrsW w) (hT : TabW w) (h : ¬ RingOk p n) :
    Calls Tryd.prog 153 #[.int .i64 p, .int .i64 n] w fun e w' => e = .returned (.tuple #[.agg ring0, .bool false]) ∧ Old w w' := by
  have c0 := fun W => impl_isSize n W
  cases hs : rgB n
  · rw [hs] at c0
    clear h hP hT hs
    go_enter Tryd.func153, Tryd.ntmps153
    go_wp2_with fail
    refine (c0 _).mono ?_
    rintro e w1 ⟨rfl, rfl⟩
    go_wp2_with fail
    exact bodyPost_ret (v := .tuple #[.agg ring0, .bool false]) (by simp [results, Tryd.results153, go_sem]) rfl ⟨rfl, by repeat (first | exact Old.refl _ | apply Old.alloc)⟩
  · rw [hs] at c0
    have hz := rgB_yes hs
    have hb : 2 ≤ n ∧ n ≤ 16 := by omega
    have c1 := fun W (h1 : PrsW W) (h2 : TabW W) => impl_RootOf_no p (2 * n) W h1 h2 (fun h3 => h (RingOk.of_root hz h3))
    have HP : Hid (PrsW w) := hP
    have HT : Hid (TabW w) := hT
    clear h hP hT hs hz
    go_enter Tryd.func153, Tryd.ntmps153
    go_wp2_with fail
    refine (c0 _).mono ?_
    rintro e w1 ⟨rfl, rfl⟩
    go_wp2_with fail
    refine (c1 _ (HP.out.old (Old.alloc (Old.refl _) _)) (HT.out.old (Old.alloc (Old.refl _) _))).mono ?_
    rintro e w1 ⟨rfl, k, rfl⟩
    go_wp2_with fail
    exact bodyPost_ret (v := .tuple #[.agg ring0, .bool false]) (by simp [results, Tryd.results153, go_sem]) rfl ⟨rfl, by repeat (first | exact Old.refl _ | apply Old.alloc | apply Old.drewN | (refine Old.own ?_ (Nat.le_refl _) _))⟩
theorem impl_RingOf_yes (p n R : Nat) (w : World) (hP : PrsW w) (hT : TabW w) (hz : (n : Int) = 2 ∨ (n : Int) = 4 ∨ (n : Int) = 8 ∨ (n : Int) = 16)
    (c1 : ∀ W, PrsW W → TabW W → Calls Tryd.prog 196 #[.int .i64 p, .int .i64 (2 * n)] W fun e w' => e = .returned (.tuple #[.int .i64 R, .bool true]) ∧ ∃ k, w' = W.drewN k) :
    Calls Tryd.prog 153 #[.int .i64 p, .int .i64 n] w fun e w' => e = .returned (.tuple #[.agg #[.int .i64 p, .int .i64 n, .int .i64 R], .bool true]) ∧ Old w w' := by
  have c0 := fun W => impl_isSize n W
  rw [rgB_mk hz] at c0
  have hb : 2 ≤ n ∧ n ≤ 16 := by omega
  have HP : Hid (PrsW w) := hP
  have HT : Hid (TabW w) := hT
  clear hP hT hz
  go_enter Tryd.func153, Tryd.ntmps153
  go_wp2_with fail
  refine (c0 _).mono ?_
  rintro e w1 ⟨rfl, rfl⟩
  go_wp2_with fail
  refine (c1 _ (HP.out.old (Old.alloc (Old.refl _) _)) (HT.out.old (Old.alloc (Old.refl _) _))).mono ?_
  rintro e w1 ⟨rfl, k, rfl⟩
  go_wp2_with fail
  exact bodyPost_ret (v := .tuple #[.agg #[.int .i64 p, .int .i64 n, .int .i64 R], .bool true]) (by simp [results, Tryd.results153, go_sem]) rfl ⟨rfl, by repeat (first | exact Old.refl _ | apply Old.alloc | apply Old.drewN | (refine Old.own ?_ (Nat.le_refl _) _))⟩
set_option maxHeartbeats 1000000 in
theorem spec_RingOf_no (p n : Int) (w : World) (hp : -9223372036854775808 ≤ p ∧ p ≤ 9223372036854775807) (h : ¬ RingOk p n) :
    Calls Tryd.prog 151 #[.int .i64 p, .int .i64 n] w fun e w' => e = .returned (.tuple #[.agg ring0, .bool false]) ∧ Old w w' := by
  cases hm : modB p
  · clear h
    go_enter Tryd.func151, Tryd.ntmps151
    go_wp2_with (go_at_call 115; refine (spec_modulus _ _).mono ?_; rintro en w' ⟨rfl, rfl⟩)
    exact bodyPost_ret (v := .tuple #[.agg ring0, .bool false]) (by simp [results, Tryd.results151, go_sem]) rfl ⟨rfl, by repeat (first | exact Old.refl _ | apply Old.alloc | apply Old.drewN | (refine Old.own ?_ (Nat.le_refl _) _))⟩
  have c0 := fun W => spec_isSize n W
  cases hs : rgB n
  · rw [hs] at c0
    clear h hs
    go_enter Tryd.func151, Tryd.ntmps151
    go_wp2_with (first | (go_at_call 115; refine (spec_modulus _ _).mono ?_; rintro en w' ⟨rfl, rfl⟩) | (go_at_call 194; refine (c0 _).mono ?_; rintro en w' ⟨rfl, rfl⟩))
    exact bodyPost_ret (v := .tuple #[.agg ring0, .bool false]) (by simp [results, Tryd.results151, go_sem]) rfl ⟨rfl, by repeat (first | exact Old.refl _ | apply Old.alloc | apply Old.drewN | (refine Old.own ?_ (Nat.le_refl _) _))⟩
  rw [hs] at c0
  have hz := rgB_yes hs
  obtain ⟨m1, m2⟩ := modB_yes hm
  have c := fun W => spec_IsPrime p.toNat W (by omega)
  rw [Int.toNat_of_nonneg (by omega)] at c
  cases hi : isP p.toNat
  · rw [hi] at c
    clear h hs hz hi
    go_enter Tryd.func151, Tryd.ntmps151
    go_wp2_with (first | (go_at_call 115; refine (spec_modulus _ _).mono ?_; rintro en w' ⟨rfl, rfl⟩) | (go_at_call 194; refine (c0 _).mono ?_; rintro en w' ⟨rfl, rfl⟩))
    refine (c _).mono ?_
    rintro e w2 ⟨rfl, g2⟩
    have q0 : w2.cell? ⟨w.heap.size, 0, none⟩ = some (.int .i64 0) := (g2.cell (p := ⟨w.heap.size, 0, none⟩) (by simp)).trans (cell_at _ _ _ _ _ rfl)
    have f0 : w2.frozen? ⟨w.heap.size, 0, none⟩ = false := (g2.frozen (p := ⟨w.heap.size, 0, none⟩) (by simp)).trans (fro_at _ _ _ _ _ rfl)
    have q1 : w2.cell? ⟨w.heap.size, 1, none⟩ = some (.int .i64 0) := (g2.cell (p := ⟨w.heap.size, 1, none⟩) (by simp)).trans (cell_at _ _ _ _ _ rfl)
    have f1 : w2.frozen? ⟨w.heap.size, 1, none⟩ = false := (g2.frozen (p := ⟨w.heap.size, 1, none⟩) (by simp)).trans (fro_at _ _ _ _ _ rfl)
    have q2 : w2.cell? ⟨w.heap.size, 2, none⟩ = some (.int .i64 0) := (g2.cell (p := ⟨w.heap.size, 2, none⟩) (by simp)).trans (cell_at _ _ _ _ _ rfl)
    have f2 : w2.frozen? ⟨w.heap.size, 2, none⟩ = false := (g2.frozen (p := ⟨w.heap.size, 2, none⟩) (by simp)).trans (fro_at _ _ _ _ _ rfl)
    go_wp2_with fail
    exact bodyPost_ret (v := .tuple #[.agg ring0, .bool false]) (by simp [results, Tryd.results151, go_sem, q0, q1, q2]) rfl ⟨rfl, by repeat (first | exact Old.trans (Old.alloc (Old.refl _) _) g2 | apply Old.drewN | (refine Old.own ?_ (Nat.le_refl _) _))⟩
  · rw [hi] at c
    have hd : ((p - 1) % (2 * n) != 0) = true := by
      simp only [bne_iff_ne]
      exact fun h4 => h ⟨hz, hm, hi, h4⟩
    have hb : 2 ≤ n ∧ n ≤ 16 := by omega
    have hnn : ¬ n = 0 := by omega
    have hnn2 : ¬ 2 * n = 0 := by omega
    clear h hs hz hi
    go_enter Tryd.func151, Tryd.ntmps151
    go_wp2_with (first | (go_at_call 115; refine (spec_modulus _ _).mono ?_; rintro en w' ⟨rfl, rfl⟩) | (go_at_call 194; refine (c0 _).mono ?_; rintro en w' ⟨rfl, rfl⟩))
    refine (c _).mono ?_
    rintro e w2 ⟨rfl, g2⟩
    have q0 : w2.cell? ⟨w.heap.size, 0, none⟩ = some (.int .i64 0) := (g2.cell (p := ⟨w.heap.size, 0, none⟩) (by simp)).trans (cell_at _ _ _ _ _ rfl)
    have f0 : w2.frozen? ⟨w.heap.size, 0, none⟩ = false := (g2.frozen (p := ⟨w.heap.size, 0, none⟩) (by simp)).trans (fro_at _ _ _ _ _ rfl)
    have q1 : w2.cell? ⟨w.heap.size, 1, none⟩ = some (.int .i64 0) := (g2.cell (p := ⟨w.heap.size, 1, none⟩) (by simp)).trans (cell_at _ _ _ _ _ rfl)
    have f1 : w2.frozen? ⟨w.heap.size, 1, none⟩ = false := (g2.frozen (p := ⟨w.heap.size, 1, none⟩) (by simp)).trans (fro_at _ _ _ _ _ rfl)
    have q2 : w2.cell? ⟨w.heap.size, 2, none⟩ = some (.int .i64 0) := (g2.cell (p := ⟨w.heap.size, 2, none⟩) (by simp)).trans (cell_at _ _ _ _ _ rfl)
    have f2 : w2.frozen? ⟨w.heap.size, 2, none⟩ = false := (g2.frozen (p := ⟨w.heap.size, 2, none⟩) (by simp)).trans (fro_at _ _ _ _ _ rfl)
    go_wp2_with fail
    exact bodyPost_ret (v := .tuple #[.agg ring0, .bool false]) (by simp [results, Tryd.results151, go_sem, q0, q1, q2]) rfl ⟨rfl, by repeat (first | exact Old.trans (Old.alloc (Old.refl _) _) g2 | apply Old.drewN | (refine Old.own ?_ (Nat.le_refl _) _))⟩
set_option maxHeartbeats 1000000 in
theorem spec_RingOf_yes (p n R : Nat) (w : World) (h : RingOk p n)
    (cl : ∀ W, Calls Tryd.prog 195 #[.int .i64 p, .int .i64 (2 * n)] W fun en w' => en = .returned (.int .i64 R) ∧ w' = W) :
    Calls Tryd.prog 151 #[.int .i64 p, .int .i64 n] w fun e w' => e = .returned (.tuple #[.agg #[.int .i64 p, .int .i64 n, .int .i64 R], .bool true]) ∧ Old w w' := by
  obtain ⟨hz, hm, hi, hd⟩ := h
  have c0 := fun W => spec_isSize n W
  rw [rgB_mk hz] at c0
  obtain ⟨m1, m2⟩ := modB_yes hm
  rw [Int.toNat_natCast] at hi
  have c := fun W => spec_IsPrime p W (by omega)
  rw [hi] at c
  have hd' : (((p : Int) - 1) % (2 * (n : Int)) != 0) = false := by simp [hd]
  have hb : 2 ≤ n ∧ n ≤ 16 := by omega
  have hnn : ¬ n = 0 := by omega
  have hnn2 : ¬ 2 * (n : Int) = 0 := by omega
  clear hi hd hz
  go_enter Tryd.func151, Tryd.ntmps151
  go_wp2_with (first | (go_at_call 115; refine (spec_modulus _ _).mono ?_; rintro en w' ⟨rfl, rfl⟩) | (go_at_call 194; refine (c0 _).mono ?_; rintro en w' ⟨rfl, rfl⟩))
  refine (c _).mono ?_
  rintro e w2 ⟨rfl, g2⟩
  have q0 : w2.cell? ⟨w.heap.size, 0, none⟩ = some (.int .i64 0) := (g2.cell (p := ⟨w.heap.size, 0, none⟩) (by simp)).trans (cell_at _ _ _ _ _ rfl)
  have f0 : w2.frozen? ⟨w.heap.size, 0, none⟩ = false := (g2.frozen (p := ⟨w.heap.size, 0, none⟩) (by simp)).trans (fro_at _ _ _ _ _ rfl)
  have q1 : w2.cell? ⟨w.heap.size, 1, none⟩ = some (.int .i64 0) := (g2.cell (p := ⟨w.heap.size, 1, none⟩) (by simp)).trans (cell_at _ _ _ _ _ rfl)
  have f1 : w2.frozen? ⟨w.heap.size, 1, none⟩ = false := (g2.frozen (p := ⟨w.heap.size, 1, none⟩) (by simp)).trans (fro_at _ _ _ _ _ rfl)
  have q2 : w2.cell? ⟨w.heap.size, 2, none⟩ = some (.int .i64 0) := (g2.cell (p := ⟨w.heap.size, 2, none⟩) (by simp)).trans (cell_at _ _ _ _ _ rfl)
  have f2 : w2.frozen? ⟨w.heap.size, 2, none⟩ = false := (g2.frozen (p := ⟨w.heap.size, 2, none⟩) (by simp)).trans (fro_at _ _ _ _ _ rfl)
  go_wp2_with fail
  refine (cl _).mono ?_
  rintro e w3 ⟨rfl, rfl⟩
  go_wp2_with fail
  exact bodyPost_ret (v := .tuple #[.agg #[.int .i64 p, .int .i64 n, .int .i64 R], .bool true]) (by simp [results, Tryd.results151, go_sem, q0, q1, q2]) rfl ⟨rfl, by repeat (first | exact Old.trans (Old.alloc (Old.refl _) _) g2 | apply Old.drewN | (refine Old.own ?_ (Nat.le_refl _) _))⟩
end Go.Proofs.YtplaaglckbfklaaDoor
