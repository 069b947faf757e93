/- Proved: several texts in one: what each proves is said ahead of it. -/
import Derived.Test.YtkggfljdbdfonaaGreatDoorWo09
import Derived.BigRegion
import Derived.Test.YtkggfljdbdfonaaGreatDoorWo28
import Derived.Test.YtkggfljdbdfonaaGreatDoorWo02
/- Proved: what a split of a part of a row does to the row, in place. -/
namespace Go.Proofs.YtkggfljdbdfonaaGreatDoor
open Go.ChangeShapes Go.WideShapes Go.ChangeAt Go.RowKit
set_option linter.unusedVariables false
set_option linter.unusedSimpArgs false
theorem gby_trans {a b c : World} {o : Option Nat} (h : a.grownBy b o) (k : b.grownBy c o) : a.grownBy c o :=
  ⟨k.os.trans h.os, k.tape.trans h.tape, k.output.trans h.output, Nat.le_trans h.size k.size, fun p hp hne => (k.block p (Nat.lt_of_lt_of_le hp h.size) hne).trans (h.block p hp hne)⟩
theorem gby_drewN {a b : World} {o : Option Nat} (h : a.grownBy b o) (n : Nat) : a.grownBy (b.drewN n) o := ⟨h.os, h.tape, h.output, h.size, h.block⟩
theorem OwnI.gby {w : World} {base g n : Nat} {xs : List Int} (h : OwnI w base g n xs) (j : Nat) (y : Int) : w.grownBy (w.setCell ⟨g, j, none⟩ (.int .i64 y)) (some g) := (World.ownsRow.stored h j (.int .i64 y)).2
theorem set_lt {P : Nat} {xs : List Nat} (h : ∀ x ∈ xs, x < P) (i y : Nat) (hy : y < P) : ∀ x ∈ xs.set i y, x < P := fun x hx => by
  rcases List.mem_or_eq_of_mem_set hx with h1 | h1
  · exact h x h1
  · rw [h1]; exact hy
theorem toZ_set (xs : List Nat) (i y : Nat) : toZ (xs.set i y) = (toZ xs).set i (y : Int) := by simp [toZ, List.map_set]
end Go.Proofs.YtkggfljdbdfonaaGreatDoor
/- Proved: splitting again and again gives a polynomial's values at the points; no program in sight but its lists. -/
namespace Go.Proofs.YtkggfljdbdfonaaGreatDoor
set_option linter.unusedVariables false
/-- the same but for multiples of P -/
def Cg (P a b : Int) : Prop := ∃ c : Int, a = b + P * c
theorem Cg.refl (P a : Int) : Cg P a a := ⟨0, by simp⟩
theorem Cg.symm {P a b : Int} (h : Cg P a b) : Cg P b a := by
  obtain ⟨c, h⟩ := h
  exact ⟨-c, by rw [h]; grind⟩
theorem Cg.trans {P a b c : Int} (h : Cg P a b) (k : Cg P b c) : Cg P a c := by
  obtain ⟨x, h⟩ := h
  obtain ⟨y, k⟩ := k
  exact ⟨x + y, by rw [h, k]; grind⟩
theorem Cg.add {P a b c d : Int} (h : Cg P a b) (k : Cg P c d) : Cg P (a + c) (b + d) := by
  obtain ⟨x, h⟩ := h
  obtain ⟨y, k⟩ := k
  exact ⟨x + y, by rw [h, k]; grind⟩
theorem Cg.mul {P a b c d : Int} (h : Cg P a b) (k : Cg P c d) : Cg P (a * c) (b * d) := by
  obtain ⟨x, h⟩ := h
  obtain ⟨y, k⟩ := k
  exact ⟨x * d + b * y + P * x * y, by rw [h, k]; grind⟩
theorem Cg.neg {P a b : Int} (h : Cg P a b) : Cg P (-a) (-b) := by
  obtain ⟨x, h⟩ := h
  exact ⟨-x, by rw [h]; grind⟩
theorem Cg.pow {P a b : Int} (h : Cg P a b) : ∀ n : Nat, Cg P (a ^ n) (b ^ n)
  | 0 => by simp; exact Cg.refl _ _
  | n + 1 => by rw [Int.pow_succ, Int.pow_succ]; exact (Cg.pow h n).mul h
theorem Cg.mod (P a : Nat) : Cg P ((a % P : Nat) : Int) (a : Int) := by
  refine ⟨-((a / P : Nat) : Int), ?_⟩
  have := Nat.div_add_mod a P
  have e : ((a : Nat) : Int) = (P : Int) * ((a / P : Nat) : Int) + ((a % P : Nat) : Int) := by exact_mod_cast this.symm
  rw [e]
  grind
theorem Cg.eq_of_lt {P a b : Nat} (h : Cg P a b) (ha : a < P) (hb : b < P) : a = b := by
  obtain ⟨c, h⟩ := h
  have : (a : Int) % (P : Int) = (b : Int) % (P : Int) := by rw [h]; exact Int.add_mul_emod_self_left _ _ _
  rw [Int.emod_eq_of_lt (by omega) (by omega), Int.emod_eq_of_lt (by omega) (by omega)] at this
  omega
theorem gset (l : List Nat) (i v m : Nat) (hi : i < l.length) : (l.set i v).getD m 0 = if m = i then v else l.getD m 0 := by
  by_cases h : m = i
  · subst h
    simp [List.getD, hi]
  · rw [if_neg h]
    simp only [List.getD]
    rw [List.getElem?_set_ne (by omega)]
end Go.Proofs.YtkggfljdbdfonaaGreatDoor
/- Proved: after all steps of splitting there stands at each place the polynomial's value at the place's point. -/
namespace Go.Proofs.YtkggfljdbdfonaaGreatDoor
set_option linter.unusedVariables false
theorem dv {m D J : Nat} (h1 : J * D ≤ m) (h2 : m < J * D + D) : m / D = J := by
  have hD : 0 < D := by omega
  apply Nat.div_eq_of_lt_le
  · exact h1
  · rw [Nat.add_mul, Nat.one_mul]; exact h2
theorem dv_lo (m D : Nat) (hD : 0 < D) : m / D * D ≤ m ∧ m < m / D * D + D ∧ m % D = m - m / D * D := by
  have h1 := Nat.div_add_mod m D
  have h2 := Nat.mod_lt m hD
  rw [Nat.mul_comm] at h1
  omega
theorem fact2 : ∀ s, s < 1 → ∀ k, k < 2 → ((2 * backN 1 k 0 + 1) * (2 / 2 ^ s / 2)) % 4 = if k % (2 / 2 ^ s) < 2 / 2 ^ s / 2 then backN 1 (2 ^ s + k / (2 / 2 ^ s)) 0 else backN 1 (2 ^ s + k / (2 / 2 ^ s)) 0 + 2 := by decide
theorem fact4 : ∀ s, s < 2 → ∀ k, k < 4 → ((2 * backN 2 k 0 + 1) * (4 / 2 ^ s / 2)) % 8 = if k % (4 / 2 ^ s) < 4 / 2 ^ s / 2 then backN 2 (2 ^ s + k / (4 / 2 ^ s)) 0 else backN 2 (2 ^ s + k / (4 / 2 ^ s)) 0 + 4 := by decide +kernel
theorem fact8 : ∀ s, s < 3 → ∀ k, k < 8 → ((2 * backN 3 k 0 + 1) * (8 / 2 ^ s / 2)) % 16 = if k % (8 / 2 ^ s) < 8 / 2 ^ s / 2 then backN 3 (2 ^ s + k / (8 / 2 ^ s)) 0 else backN 3 (2 ^ s + k / (8 / 2 ^ s)) 0 + 8 := by decide +kernel
theorem fact16 : ∀ s, s < 4 → ∀ k, k < 16 → ((2 * backN 4 k 0 + 1) * (16 / 2 ^ s / 2)) % 32 = if k % (16 / 2 ^ s) < 16 / 2 ^ s / 2 then backN 4 (2 ^ s + k / (16 / 2 ^ s)) 0 else backN 4 (2 ^ s + k / (16 / 2 ^ s)) 0 + 16 := by decide +kernel
theorem fact {N : Nat} (h : Sz4 N) (s : Nat) (hs : s < lg N) (k : Nat) (hk : k < N) : ((2 * backN (lg N) k 0 + 1) * (N / 2 ^ s / 2)) % (2 * N) = if k % (N / 2 ^ s) < N / 2 ^ s / 2 then backN (lg N) (2 ^ s + k / (N / 2 ^ s)) 0 else backN (lg N) (2 ^ s + k / (N / 2 ^ s)) 0 + N := by
  rcases h with rfl | rfl | rfl | rfl
  · exact fact2 s hs k hk
  · exact fact4 s hs k hk
  · exact fact8 s hs k hk
  · exact fact16 s hs k hk
/-- the power of a root of 1 by what is left of the exponent -/
theorem pow_per {P N R : Nat} (h1 : Cg P ((R : Int) ^ (2 * N)) 1) (e b : Nat) (he : e % (2 * N) = b) : Cg P ((R : Int) ^ e) ((R : Int) ^ b) := by
  have h := Nat.div_add_mod e (2 * N)
  rw [he] at h
  rw [← h, Int.pow_add, Int.pow_mul]
  have := (h1.pow (e / (2 * N))).mul (Cg.refl (P : Int) ((R : Int) ^ b))
  rw [Int.one_pow, Int.one_mul] at this
  exact this
end Go.Proofs.YtkggfljdbdfonaaGreatDoor
/- Proved: the list that the program's steps make is the model's list of values, where the root's N-th power is -1. -/
namespace Go.Proofs.YtkggfljdbdfonaaGreatDoor
set_option linter.unusedVariables false
set_option linter.unusedSimpArgs false
theorem list_eq {a b : List Nat} (hl : a.length = b.length) (h : ∀ k, k < b.length → a.getD k 0 = b.getD k 0) : a = b := by
  refine List.ext_getElem hl (fun k h1 h2 => ?_)
  have := h k h2
  simpa [List.getD, h1, h2] using this
/-- a root of 1 gives both powers -/
theorem Rt.cg {P N R : Nat} (h : Rt P (2 * N) R) (hP : 2 ≤ P) : Cg P ((R : Int) ^ (2 * N)) 1 ∧ Cg P ((R : Int) ^ N) (-1) := by
  have h1 := (Cg.mod P (R ^ (2 * N))).symm
  have h2 := (Cg.mod P (R ^ N)).symm
  rw [h.one] at h1
  have hn := h.neg
  rw [show 2 * N / 2 = N by omega] at hn
  rw [hn] at h2
  push_cast at h1 h2
  refine ⟨h1, h2.trans ⟨1, by omega⟩⟩
end Go.Proofs.YtkggfljdbdfonaaGreatDoor
/- Proved: what a join of a part of a row does to the row, in place. -/
namespace Go.Proofs.YtkggfljdbdfonaaGreatDoor
open Go.ChangeShapes Go.WideShapes Go.ChangeAt Go.RowKit
set_option linter.unusedVariables false
set_option linter.unusedSimpArgs false
/-- a join's first i steps: at off and at off + hh -/
def jnS (P w0 off hh : Nat) (fs : List Nat) : Nat → List Nat
  | 0 => fs
  | i + 1 => ((jnS P w0 off hh fs i).set (off + i) (((jnS P w0 off hh fs i).getD (off + i) 0 + (jnS P w0 off hh fs i).getD (off + hh + i) 0) % P)).set (off + hh + i) (((jnS P w0 off hh fs i).getD (off + i) 0 + P - (jnS P w0 off hh fs i).getD (off + hh + i) 0) * w0 % P)
theorem jnS_len (P w0 off hh : Nat) (fs : List Nat) : ∀ i, (jnS P w0 off hh fs i).length = fs.length
  | 0 => rfl
  | i + 1 => by rw [jnS, List.length_set, List.length_set, jnS_len P w0 off hh fs i]
theorem jnS_lt (P w0 off hh : Nat) (fs : List Nat) (hP : 0 < P) (h : ∀ x ∈ fs, x < P) : ∀ i, ∀ x ∈ jnS P w0 off hh fs i, x < P
  | 0 => h
  | i + 1 => by
    rw [jnS]
    exact set_lt (set_lt (jnS_lt P w0 off hh fs hP h i) _ _ (Nat.mod_lt _ hP)) _ _ (Nat.mod_lt _ hP)
set_option maxRecDepth 100000 in
set_option maxHeartbeats 2000000 in
theorem impl_join (P N R w0 off hh cap g base : Nat) (fs : List Nat) (w : World) (hP : 2 ≤ P ∧ P ≤ 268435456) (hw0 : w0 < P) (hN : N ≤ 16) (hof : off + 2 * hh ≤ N) (hO : OwnI w base g N (toZ fs)) (hgl : g < w.heap.size) (lf : fs.length = N) (hf : ∀ x ∈ fs, x < P) :
    Calls Tryz.prog 177 #[.agg #[.int .i64 P, .int .i64 N, .int .i64 R], .slice (some ⟨g, off, none⟩) (2 * hh) cap, .int .i64 w0] w fun e w' => e = .returned (.tuple #[]) ∧ w.grownBy w' (some g) ∧ OwnI w' base g N (toZ (jnS P w0 off hh fs hh)) := by
  have HO : Hid (OwnI w base g N (toZ fs)) := hO
  have HLT : Hid (∀ i j, (jnS P w0 off hh fs i).getD j 0 < P) := fun i j => getD_lt (jnS_lt P w0 off hh fs (by omega) hf i) (by omega) j
  have HLN : Hid (∀ i, (toZ (jnS P w0 off hh fs i)).length = N) := fun i => by rw [toZ_len, jnS_len, lf]
  have HST : Hid (∀ i, toZ (jnS P w0 off hh fs (i + 1)) = ((toZ (jnS P w0 off hh fs i)).set (off + i) (((jnS P w0 off hh fs i).getD (off + i) 0 + (jnS P w0 off hh fs i).getD (off + hh + i) 0) % P : Nat)).set (off + hh + i) (((jnS P w0 off hh fs i).getD (off + i) 0 + P - (jnS P w0 off hh fs i).getD (off + hh + i) 0) * w0 % P : Nat)) := fun i => by rw [jnS, toZ_set, toZ_set]
  have H0 : Hid (jnS P w0 off hh fs 0 = fs) := rfl
  generalize jnS P w0 off hh fs = F at *
  clear hO lf hf
  obtain ⟨ln, hln⟩ : ∃ ln, ln = 2 * hh := ⟨_, rfl⟩
  have el : (ln : Int) / 2 = (hh : Int) := by omega
  rw [← hln]
  have hln2 : off + ln ≤ N := by omega
  have hlb : ln ≤ 16 := by omega
  have HLH : Hid (ln = 2 * hh) := hln
  have hhl : hh ≤ 8 := by omega
  clear hln
  have RC0 : Hid (Rc (w.alloc (.cells #[.int .i64 P, .int .i64 N, .int .i64 R] 116)) w.heap.size P N R) := Rc.new w _ _ _
  have HG0 : Hid (w.grownBy (w.alloc (.cells #[.int .i64 P, .int .i64 N, .int .i64 R] 116)) (some g)) := World.grownBy_alloc _ _ _
  have HO0 : Hid (OwnI (w.alloc (.cells #[.int .i64 P, .int .i64 N, .int .i64 R] 116)) base g N (toZ (F 0))) := by
    show OwnI _ _ _ _ _
    rw [H0.out]
    exact HO.out.old ((Old.refl w).alloc _)
  have hpn : ¬ (P : Int) = 0 := by omega
  have hpn2 : ¬ P = 0 := by omega
  clear HO H0
  go_enter Tryz.func177, Tryz.ntmps177
  go_wp2_with fail
  go_loopw [7, 8, 9, 14] (fun x y z i W => ∃ k : Nat, k ≤ hh ∧ i = .int .i64 k ∧ Hid (OwnI W base g N (toZ (F k))) ∧ Hid (w.grownBy W (some g)) ∧ Hid (Rc W w.heap.size P N R)) (fun _ _ _ i _ => hh - (intOf i).toNat)
  case atStart => exact ⟨0, by omega, rfl, HO0, HG0, RC0⟩
  case round =>
    obtain ⟨k, hk, rfl, HO1, HG1, RC1⟩ := hrel
    clear HO0 HG0 RC0
    by_cases hlt : k < hh
    · have d1 : decide ((k : Int) < (hh : Int)) = true := by simp; omega
      have hk2 : off + k < N := by omega
      have hk3 : off + hh + k < N := by omega
      have i1 : (k : Int) < (ln : Int) := by have := HLH.out; omega
      have z0 := RC1.out.c0
      have c1 := HO1.out.get (HLN.out k) (off + k) hk2
      have c2 := HO1.out.get (HLN.out k) (off + hh + k) hk3
      rw [toZ_get] at c1 c2
      have c3 := HO1.out.free (off + k)
      have c4 := HO1.out.free (off + hh + k)
      have hx := HLT.out k (off + k)
      have hy := HLT.out k (off + hh + k)
      have HS := HST.out k
      generalize (F k).getD (off + k) 0 = x at *
      generalize (F k).getD (off + hh + k) 0 = y at *
      obtain ⟨jj, hjj⟩ : ∃ jj, jj = hh + k := ⟨_, rfl⟩
      have ej : (hh : Int) + (k : Int) = (jj : Int) := by omega
      have i2 : (jj : Int) < (ln : Int) := by have := HLH.out; omega
      have ewj : IntKind.i64.wrap (jj : Int) = (jj : Int) := by rw [IntKind.wrap_i64]; omega
      rw [show off + hh + k = off + jj by omega] at c2 c4 HS
      have hne : off + k ≠ off + jj := by omega
      have HJ : Hid (jj = hh + k) := hjj
      have HSS : Hid (toZ (F (k + 1)) = _) := HS
      clear hjj HS
      go_wp2_with fail
      go_quiet (fail)
      have HO2 : Hid (OwnI (wr.drewN nq) base g N (toZ (F k))) := HO1.out
      have HG2 : Hid (w.grownBy (wr.drewN nq) (some g)) := gby_drewN HG1.out nq
      have RC2 : Hid (Rc (wr.drewN nq) w.heap.size P N R) := RC1.out.old ((Old.refl _).drewN nq)
      have c1' : (wr.drewN nq).cell? ⟨g, off + k, none⟩ = some (.int .i64 (x : Int)) := c1
      have c2' : (wr.drewN nq).cell? ⟨g, off + jj, none⟩ = some (.int .i64 (y : Int)) := c2
      have c3' : (wr.drewN nq).frozen? ⟨g, off + k, none⟩ = false := c3
      have c4' : (wr.drewN nq).frozen? ⟨g, off + jj, none⟩ = false := c4
      have z0' : (wr.drewN nq).cell? ⟨w.heap.size, 0, none⟩ = some (.int .i64 (P : Int)) := z0
      clear c1 c2 c3 c4 z0 HO1 HG1 RC1
      generalize wr.drewN nq = W2 at *
      have e5 : (x : Int) + (y : Int) = ((x + y : Nat) : Int) := by simp
      have ewS : IntKind.i64.wrap ((x : Int) - (y : Int)) = (x : Int) - (y : Int) := by rw [IntKind.wrap_i64]; omega
      have e6 : (x : Int) - (y : Int) + (P : Int) = ((x + P - y : Nat) : Int) := by omega
      have b5 : x + y ≤ 600000000 := by omega
      have b6 : x + P - y ≤ 600000000 := by omega
      generalize x + y = sA at *
      generalize x + P - y = sB at *
      have ewA : IntKind.i64.wrap ((sA : Nat) : Int) = (sA : Int) := by rw [IntKind.wrap_i64]; omega
      have ewB : IntKind.i64.wrap ((sB : Nat) : Int) = (sB : Int) := by rw [IntKind.wrap_i64]; omega
      have b7 : sB * w0 ≤ 161061273600000000 := Nat.le_trans (Nat.mul_le_mul b6 (show w0 ≤ 268435456 by omega)) (by decide)
      have e7 : (sB : Int) * (w0 : Int) = ((sB * w0 : Nat) : Int) := by simp
      generalize sB * w0 = sC at *
      have ewC : IntKind.i64.wrap ((sC : Nat) : Int) = (sC : Int) := by rw [IntKind.wrap_i64]; omega
      have tA : Int.tmod (sA : Int) (P : Int) = ((sA % P : Nat) : Int) := by rw [Int.tmod_eq_emod_of_nonneg (by omega)]; simp
      have tC : Int.tmod (sC : Int) (P : Int) = ((sC % P : Nat) : Int) := by rw [Int.tmod_eq_emod_of_nonneg (by omega)]; simp
      have mA : (sA : Int) % (P : Int) = ((sA % P : Nat) : Int) := by simp
      have mC : (sC : Int) % (P : Int) = ((sC % P : Nat) : Int) := by simp
      generalize sA % P = A at *
      generalize sC % P = B at *
      have HO3 : Hid (OwnI ((W2.setCell ⟨g, off + k, none⟩ (.int .i64 (A : Int))).setCell ⟨g, off + jj, none⟩ (.int .i64 (B : Int))) base g N (toZ (F (k + 1)))) := by
        show OwnI _ _ _ _ _
        rw [HSS.out]
        exact (HO2.out.put (off + k) _).put (off + jj) _
      have HG3 : Hid (w.grownBy ((W2.setCell ⟨g, off + k, none⟩ (.int .i64 (A : Int))).setCell ⟨g, off + jj, none⟩ (.int .i64 (B : Int))) (some g)) := gby_trans HG2.out (gby_trans (HO2.out.gby (off + k) _) ((HO2.out.put (off + k) _).gby (off + jj) _))
      have HR3 : Hid (Rc ((W2.setCell ⟨g, off + k, none⟩ (.int .i64 (A : Int))).setCell ⟨g, off + jj, none⟩ (.int .i64 (B : Int))) w.heap.size P N R) := (RC2.out.by_ (HO2.out.gby (off + k) _) (fun b hb => by injection hb with hb; omega)).by_ ((HO2.out.put (off + k) _).gby (off + jj) _) (fun b hb => by injection hb with hb; omega)
      clear HSS
      go_wp2_with fail
      go_region
      all_goals
        go_wp2_with fail
        exact ⟨⟨k + 1, by omega, by go_num, HO3.out, gby_drewN HG3.out 1, HR3.out.old ((Old.refl _).drewN 1)⟩, by simp [intOf]; omega⟩
    · have d1 : decide ((k : Int) < (hh : Int)) = false := by simp; omega
      obtain rfl : k = hh := by omega
      go_wp2_with fail
      go_end0
      exact ⟨rfl, HG1.out, HO1.out⟩
end Go.Proofs.YtkggfljdbdfonaaGreatDoor
