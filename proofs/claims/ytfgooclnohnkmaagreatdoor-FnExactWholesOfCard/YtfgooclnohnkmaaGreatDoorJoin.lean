/- Proved: what a join of a part of a row does to the row, in place. -/
import Derived.Test.YtfgooclnohnkmaaGreatDoorSplit
namespace Go.Proofs.YtfgooclnohnkmaaGreatDoor
open Go.ChangeShapes Go.WideShapes Go.ChangeAt Go.RowKit
set_option linter.unusedVariables false
set_option linter.unusedSimpArgs false
/-- a join's first i steps: at off and at off + hh -/
def jnS (P w0 off hh : Nat) (fs : List Nat) : Nat → List Nat
  | 0 => fs
  | i + 1 => ((jnS P w0 off hh fs i).set (off + i) (((jnS P w0 off hh fs i).getD (off + i) 0 + (jnS P w0 off hh fs i).getD (off + hh + i) 0) % P)).set (off + hh + i) (((jnS P w0 off hh fs i).getD (off + i) 0 + P - (jnS P w0 off hh fs i).getD (off + hh + i) 0) * w0 % P)
theorem jnS_len (P w0 off hh : Nat) (fs : List Nat) : ∀ i, (jnS P w0 off hh fs i).length = fs.length
  | 0 => rfl
  | i + 1 => by rw [jnS, List.length_set, List.length_set, jnS_len P w0 off hh fs i]
theorem jnS_lt (P w0 off hh : Nat) (fs : List Nat) (hP : 0 < P) (h : ∀ x ∈ fs, x < P) : ∀ i, ∀ x ∈ jnS P w0 off hh fs i, x < P
  | 0 => h
  | i + 1 => by
    rw [jnS]
    exact set_lt (set_lt (jnS_lt P w0 off hh fs hP h i) _ _ (Nat.mod_lt _ hP)) _ _ (Nat.mod_lt _ hP)
set_option maxRecDepth 100000 in
set_option maxHeartbeats 2000000 in
theorem impl_join (P N R w0 off hh cap g base : Nat) (fs : List Nat) (w : World) (hP : 2 ≤ P ∧ P ≤ 268435456) (hw0 : w0 < P) (hN : N ≤ 16) (hof : off + 2 * hh ≤ N) (hO : OwnI w base g N (toZ fs)) (hgl : g < w.heap.size) (lf : fs.length = N) (hf : ∀ x ∈ fs, x < P) :
    Calls Tryz.prog 211 #[.agg #[.int .i64 P, .int .i64 N, .int .i64 R], .slice (some ⟨g, off, none⟩) (2 * hh) cap, .int .i64 w0] w fun e w' => e = .returned (.tuple #[]) ∧ w.grownBy w' (some g) ∧ OwnI w' base g N (toZ (jnS P w0 off hh fs hh)) := by
  have HO : Hid (OwnI w base g N (toZ fs)) := hO
  have HLT : Hid (∀ i j, (jnS P w0 off hh fs i).getD j 0 < P) := fun i j => getD_lt (jnS_lt P w0 off hh fs (by omega) hf i) (by omega) j
  have HLN : Hid (∀ i, (toZ (jnS P w0 off hh fs i)).length = N) := fun i => by rw [toZ_len, jnS_len, lf]
  have HST : Hid (∀ i, toZ (jnS P w0 off hh fs (i + 1)) = ((toZ (jnS P w0 off hh fs i)).set (off + i) (((jnS P w0 off hh fs i).getD (off + i) 0 + (jnS P w0 off hh fs i).getD (off + hh + i) 0) % P : Nat)).set (off + hh + i) (((jnS P w0 off hh fs i).getD (off + i) 0 + P - (jnS P w0 off hh fs i).getD (off + hh + i) 0) * w0 % P : Nat)) := fun i => by rw [jnS, toZ_set, toZ_set]
  have H0 : Hid (jnS P w0 off hh fs 0 = fs) := rfl
  generalize jnS P w0 off hh fs = F at *
  clear hO lf hf
  obtain ⟨ln, hln⟩ : ∃ ln, ln = 2 * hh := ⟨_, rfl⟩
  have el : (ln : Int) / 2 = (hh : Int) := by omega
  rw [← hln]
  have hln2 : off + ln ≤ N := by omega
  have hlb : ln ≤ 16 := by omega
  have HLH : Hid (ln = 2 * hh) := hln
  have hhl : hh ≤ 8 := by omega
  clear hln
  have RC0 : Hid (Rc (w.alloc (.cells #[.int .i64 P, .int .i64 N, .int .i64 R] 151)) w.heap.size P N R) := Rc.new w _ _ _
  have HG0 : Hid (w.grownBy (w.alloc (.cells #[.int .i64 P, .int .i64 N, .int .i64 R] 151)) (some g)) := World.grownBy_alloc _ _ _
  have HO0 : Hid (OwnI (w.alloc (.cells #[.int .i64 P, .int .i64 N, .int .i64 R] 151)) base g N (toZ (F 0))) := by
    show OwnI _ _ _ _ _
    rw [H0.out]
    exact HO.out.old ((Old.refl w).alloc _)
  have hpn : ¬ (P : Int) = 0 := by omega
  have hpn2 : ¬ P = 0 := by omega
  clear HO H0
  go_enter Tryz.func211, Tryz.ntmps211
  go_wp2_with fail
  go_loopw [7, 8, 9, 14] (fun x y z i W => ∃ k : Nat, k ≤ hh ∧ i = .int .i64 k ∧ Hid (OwnI W base g N (toZ (F k))) ∧ Hid (w.grownBy W (some g)) ∧ Hid (Rc W w.heap.size P N R)) (fun _ _ _ i _ => hh - (intOf i).toNat)
  case atStart => exact ⟨0, by omega, rfl, HO0, HG0, RC0⟩
  case round =>
    obtain ⟨k, hk, rfl, HO1, HG1, RC1⟩ := hrel
    clear HO0 HG0 RC0
    by_cases hlt : k < hh
    · have d1 : decide ((k : Int) < (hh : Int)) = true := by simp; omega
      have hk2 : off + k < N := by omega
      have hk3 : off + hh + k < N := by omega
      have i1 : (k : Int) < (ln : Int) := by have := HLH.out; omega
      have z0 := RC1.out.c0
      have c1 := HO1.out.get (HLN.out k) (off + k) hk2
      have c2 := HO1.out.get (HLN.out k) (off + hh + k) hk3
      rw [toZ_get] at c1 c2
      have c3 := HO1.out.free (off + k)
      have c4 := HO1.out.free (off + hh + k)
      have hx := HLT.out k (off + k)
      have hy := HLT.out k (off + hh + k)
      have HS := HST.out k
      generalize (F k).getD (off + k) 0 = x at *
      generalize (F k).getD (off + hh + k) 0 = y at *
      obtain ⟨jj, hjj⟩ : ∃ jj, jj = hh + k := ⟨_, rfl⟩
      have ej : (hh : Int) + (k : Int) = (jj : Int) := by omega
      have i2 : (jj : Int) < (ln : Int) := by have := HLH.out; omega
      have ewj : IntKind.i64.wrap (jj : Int) = (jj : Int) := by rw [IntKind.wrap_i64]; omega
      rw [show off + hh + k = off + jj by omega] at c2 c4 HS
      have hne : off + k ≠ off + jj := by omega
      have HJ : Hid (jj = hh + k) := hjj
      have HSS : Hid (toZ (F (k + 1)) = _) := HS
      clear hjj HS
      go_wp2_with fail
      go_quiet (fail)
      have HO2 : Hid (OwnI (wr.drewN nq) base g N (toZ (F k))) := HO1.out
      have HG2 : Hid (w.grownBy (wr.drewN nq) (some g)) := gby_drewN HG1.out nq
      have RC2 : Hid (Rc (wr.drewN nq) w.heap.size P N R) := RC1.out.old ((Old.refl _).drewN nq)
      have c1' : (wr.drewN nq).cell? ⟨g, off + k, none⟩ = some (.int .i64 (x : Int)) := c1
      have c2' : (wr.drewN nq).cell? ⟨g, off + jj, none⟩ = some (.int .i64 (y : Int)) := c2
      have c3' : (wr.drewN nq).frozen? ⟨g, off + k, none⟩ = false := c3
      have c4' : (wr.drewN nq).frozen? ⟨g, off + jj, none⟩ = false := c4
      have z0' : (wr.drewN nq).cell? ⟨w.heap.size, 0, none⟩ = some (.int .i64 (P : Int)) := z0
      clear c1 c2 c3 c4 z0 HO1 HG1 RC1
      generalize wr.drewN nq = W2 at *
      have e5 : (x : Int) + (y : Int) = ((x + y : Nat) : Int) := by simp
      have ewS : IntKind.i64.wrap ((x : Int) - (y : Int)) = (x : Int) - (y : Int) := by rw [IntKind.wrap_i64]; omega
      have e6 : (x : Int) - (y : Int) + (P : Int) = ((x + P - y : Nat) : Int) := by omega
      have b5 : x + y ≤ 600000000 := by omega
      have b6 : x + P - y ≤ 600000000 := by omega
      generalize x + y = sA at *
      generalize x + P - y = sB at *
      have ewA : IntKind.i64.wrap ((sA : Nat) : Int) = (sA : Int) := by rw [IntKind.wrap_i64]; omega
      have ewB : IntKind.i64.wrap ((sB : Nat) : Int) = (sB : Int) := by rw [IntKind.wrap_i64]; omega
      have b7 : sB * w0 ≤ 161061273600000000 := Nat.le_trans (Nat.mul_le_mul b6 (show w0 ≤ 268435456 by omega)) (by decide)
      have e7 : (sB : Int) * (w0 : Int) = ((sB * w0 : Nat) : Int) := by simp
      generalize sB * w0 = sC at *
      have ewC : IntKind.i64.wrap ((sC : Nat) : Int) = (sC : Int) := by rw [IntKind.wrap_i64]; omega
      have tA : Int.tmod (sA : Int) (P : Int) = ((sA % P : Nat) : Int) := by rw [Int.tmod_eq_emod_of_nonneg (by omega)]; simp
      have tC : Int.tmod (sC : Int) (P : Int) = ((sC % P : Nat) : Int) := by rw [Int.tmod_eq_emod_of_nonneg (by omega)]; simp
      have mA : (sA : Int) % (P : Int) = ((sA % P : Nat) : Int) := by simp
      have mC : (sC : Int) % (P : Int) = ((sC % P : Nat) : Int) := by simp
      generalize sA % P = A at *
      generalize sC % P = B at *
      have HO3 : Hid (OwnI ((W2.setCell ⟨g, off + k, none⟩ (.int .i64 (A : Int))).setCell ⟨g, off + jj, none⟩ (.int .i64 (B : Int))) base g N (toZ (F (k + 1)))) := by
        show OwnI _ _ _ _ _
        rw [HSS.out]
        exact (HO2.out.put (off + k) _).put (off + jj) _
      have HG3 : Hid (w.grownBy ((W2.setCell ⟨g, off + k, none⟩ (.int .i64 (A : Int))).setCell ⟨g, off + jj, none⟩ (.int .i64 (B : Int))) (some g)) := gby_trans HG2.out (gby_trans (HO2.out.gby (off + k) _) ((HO2.out.put (off + k) _).gby (off + jj) _))
      have HR3 : Hid (Rc ((W2.setCell ⟨g, off + k, none⟩ (.int .i64 (A : Int))).setCell ⟨g, off + jj, none⟩ (.int .i64 (B : Int))) w.heap.size P N R) := (RC2.out.by_ (HO2.out.gby (off + k) _) (fun b hb => by injection hb with hb; omega)).by_ ((HO2.out.put (off + k) _).gby (off + jj) _) (fun b hb => by injection hb with hb; omega)
      clear HSS
      go_wp2_with fail
      go_region
      all_goals
        go_wp2_with fail
        exact ⟨⟨k + 1, by omega, by go_num, HO3.out, gby_drewN HG3.out 1, HR3.out.old ((Old.refl _).drewN 1)⟩, by simp [intOf]; omega⟩
    · have d1 : decide ((k : Int) < (hh : Int)) = false := by simp; omega
      obtain rfl : k = hh := by omega
      go_wp2_with fail
      go_end0
      exact ⟨rfl, HG1.out, HO1.out⟩
end Go.Proofs.YtfgooclnohnkmaaGreatDoor
