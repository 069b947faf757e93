/- Proved: what a split of a part of a row does to the row, in place. -/
import Derived.Test.YtfgooclnohnkmaaGreatDoorKE
import Derived.BigRegion
namespace Go.Proofs.YtfgooclnohnkmaaGreatDoor
open Go.ChangeShapes Go.WideShapes Go.ChangeAt Go.RowKit
set_option linter.unusedVariables false
set_option linter.unusedSimpArgs false
theorem gby_trans {a b c : World} {o : Option Nat} (h : a.grownBy b o) (k : b.grownBy c o) : a.grownBy c o :=
  ⟨k.os.trans h.os, k.tape.trans h.tape, k.output.trans h.output, Nat.le_trans h.size k.size, fun p hp hne => (k.block p (Nat.lt_of_lt_of_le hp h.size) hne).trans (h.block p hp hne)⟩
theorem gby_drewN {a b : World} {o : Option Nat} (h : a.grownBy b o) (n : Nat) : a.grownBy (b.drewN n) o := ⟨h.os, h.tape, h.output, h.size, h.block⟩
theorem OwnI.gby {w : World} {base g n : Nat} {xs : List Int} (h : OwnI w base g n xs) (j : Nat) (y : Int) : w.grownBy (w.setCell ⟨g, j, none⟩ (.int .i64 y)) (some g) := (World.ownsRow.stored h j (.int .i64 y)).2
/-- a split's first i steps: at off and at off + hh -/
def spS (P w0 off hh : Nat) (fs : List Nat) : Nat → List Nat
  | 0 => fs
  | i + 1 => ((spS P w0 off hh fs i).set (off + i) (((spS P w0 off hh fs i).getD (off + i) 0 + w0 * (spS P w0 off hh fs i).getD (off + hh + i) 0 % P) % P)).set (off + hh + i) (((spS P w0 off hh fs i).getD (off + i) 0 + P - w0 * (spS P w0 off hh fs i).getD (off + hh + i) 0 % P) % P)
theorem spS_len (P w0 off hh : Nat) (fs : List Nat) : ∀ i, (spS P w0 off hh fs i).length = fs.length
  | 0 => rfl
  | i + 1 => by rw [spS, List.length_set, List.length_set, spS_len P w0 off hh fs i]
theorem set_lt {P : Nat} {xs : List Nat} (h : ∀ x ∈ xs, x < P) (i y : Nat) (hy : y < P) : ∀ x ∈ xs.set i y, x < P := fun x hx => by
  rcases List.mem_or_eq_of_mem_set hx with h1 | h1
  · exact h x h1
  · rw [h1]; exact hy
theorem spS_lt (P w0 off hh : Nat) (fs : List Nat) (hP : 0 < P) (h : ∀ x ∈ fs, x < P) : ∀ i, ∀ x ∈ spS P w0 off hh fs i, x < P
  | 0 => h
  | i + 1 => by
    rw [spS]
    exact set_lt (set_lt (spS_lt P w0 off hh fs hP h i) _ _ (Nat.mod_lt _ hP)) _ _ (Nat.mod_lt _ hP)
theorem toZ_set (xs : List Nat) (i y : Nat) : toZ (xs.set i y) = (toZ xs).set i (y : Int) := by simp [toZ, List.map_set]
set_option maxRecDepth 100000 in
set_option maxHeartbeats 2000000 in
theorem impl_split (P N R w0 off hh cap g base : Nat) (fs : List Nat) (w : World) (hP : 2 ≤ P ∧ P ≤ 268435456) (hw0 : w0 < P) (hN : N ≤ 16) (hof : off + 2 * hh ≤ N) (hO : OwnI w base g N (toZ fs)) (hgl : g < w.heap.size) (lf : fs.length = N) (hf : ∀ x ∈ fs, x < P) :
    Calls Tryz.prog 217 #[.agg #[.int .i64 P, .int .i64 N, .int .i64 R], .slice (some ⟨g, off, none⟩) (2 * hh) cap, .int .i64 w0] w fun e w' => e = .returned (.tuple #[]) ∧ w.grownBy w' (some g) ∧ OwnI w' base g N (toZ (spS P w0 off hh fs hh)) := by
  have HO : Hid (OwnI w base g N (toZ fs)) := hO
  have HLT : Hid (∀ i j, (spS P w0 off hh fs i).getD j 0 < P) := fun i j => getD_lt (spS_lt P w0 off hh fs (by omega) hf i) (by omega) j
  have HLN : Hid (∀ i, (toZ (spS P w0 off hh fs i)).length = N) := fun i => by rw [toZ_len, spS_len, lf]
  have HST : Hid (∀ i, toZ (spS P w0 off hh fs (i + 1)) = ((toZ (spS P w0 off hh fs i)).set (off + i) (((spS P w0 off hh fs i).getD (off + i) 0 + w0 * (spS P w0 off hh fs i).getD (off + hh + i) 0 % P) % P : Nat)).set (off + hh + i) (((spS P w0 off hh fs i).getD (off + i) 0 + P - w0 * (spS P w0 off hh fs i).getD (off + hh + i) 0 % P) % P : Nat)) := fun i => by rw [spS, toZ_set, toZ_set]
  have H0 : Hid (spS P w0 off hh fs 0 = fs) := rfl
  generalize spS P w0 off hh fs = F at *
  clear hO lf hf
  obtain ⟨ln, hln⟩ : ∃ ln, ln = 2 * hh := ⟨_, rfl⟩
  have el : (ln : Int) / 2 = (hh : Int) := by omega
  rw [← hln]
  have hln2 : off + ln ≤ N := by omega
  have hlb : ln ≤ 16 := by omega
  have HLH : Hid (ln = 2 * hh) := hln
  have hhl : hh ≤ 8 := by omega
  clear hln
  have RC0 : Hid (Rc (w.alloc (.cells #[.int .i64 P, .int .i64 N, .int .i64 R] 151)) w.heap.size P N R) := Rc.new w _ _ _
  have HG0 : Hid (w.grownBy (w.alloc (.cells #[.int .i64 P, .int .i64 N, .int .i64 R] 151)) (some g)) := World.grownBy_alloc _ _ _
  have HO0 : Hid (OwnI (w.alloc (.cells #[.int .i64 P, .int .i64 N, .int .i64 R] 151)) base g N (toZ (F 0))) := by
    show OwnI _ _ _ _ _
    rw [H0.out]
    exact HO.out.old ((Old.refl w).alloc _)
  have hpn : ¬ (P : Int) = 0 := by omega
  have hpn2 : ¬ P = 0 := by omega
  clear HO H0
  go_enter Tryz.func217, Tryz.ntmps217
  go_wp2_with fail
  go_loopw [7, 8, 9, 14] (fun x y z i W => ∃ k : Nat, k ≤ hh ∧ i = .int .i64 k ∧ Hid (OwnI W base g N (toZ (F k))) ∧ Hid (w.grownBy W (some g)) ∧ Hid (Rc W w.heap.size P N R)) (fun _ _ _ i _ => hh - (intOf i).toNat)
  case atStart => exact ⟨0, by omega, rfl, HO0, HG0, RC0⟩
  case round =>
    obtain ⟨k, hk, rfl, HO1, HG1, RC1⟩ := hrel
    clear HO0 HG0 RC0
    by_cases hlt : k < hh
    · have d1 : decide ((k : Int) < (hh : Int)) = true := by simp; omega
      have hk2 : off + k < N := by omega
      have hk3 : off + hh + k < N := by omega
      have i1 : (k : Int) < (ln : Int) := by have := HLH.out; omega
      have z0 := RC1.out.c0
      have c1 := HO1.out.get (HLN.out k) (off + k) hk2
      have c2 := HO1.out.get (HLN.out k) (off + hh + k) hk3
      rw [toZ_get] at c1 c2
      have c3 := HO1.out.free (off + k)
      have c4 := HO1.out.free (off + hh + k)
      have hx := HLT.out k (off + k)
      have hy := HLT.out k (off + hh + k)
      have HS := HST.out k
      generalize (F k).getD (off + k) 0 = x at *
      generalize (F k).getD (off + hh + k) 0 = y at *
      have hmul := mul_lt28 w0 y P hw0 hy hP.2
      have e1 : (w0 : Int) * (y : Int) = ((w0 * y : Nat) : Int) := by simp
      have hq : w0 * y % P < P := Nat.mod_lt _ (by omega)
      have e2 : ((w0 * y : Nat) : Int) % (P : Int) = ((w0 * y % P : Nat) : Int) := by simp
      generalize w0 * y = s at *
      have ew1 : IntKind.i64.wrap ((s : Nat) : Int) = (s : Int) := by rw [IntKind.wrap_i64]; omega
      have e3 : Int.tmod (s : Int) (P : Int) = ((s % P : Nat) : Int) := by rw [Int.tmod_eq_emod_of_nonneg (by omega)]; simp
      generalize s % P = q at *
      obtain ⟨jj, hjj⟩ : ∃ jj, jj = hh + k := ⟨_, rfl⟩
      have ej : (hh : Int) + (k : Int) = (jj : Int) := by omega
      have i2 : (jj : Int) < (ln : Int) := by have := HLH.out; omega
      have ewj : IntKind.i64.wrap (jj : Int) = (jj : Int) := by rw [IntKind.wrap_i64]; omega
      rw [show off + hh + k = off + jj by omega] at c2 c4 HS
      have hne : off + k ≠ off + jj := by omega
      have HJ : Hid (jj = hh + k) := hjj
      have HSS : Hid (toZ (F (k + 1)) = _) := HS
      clear hjj HS
      go_wp2_with fail
      go_quiet (fail)
      have HO2 : Hid (OwnI (wr.drewN nq) base g N (toZ (F k))) := HO1.out
      have HG2 : Hid (w.grownBy (wr.drewN nq) (some g)) := gby_drewN HG1.out nq
      have RC2 : Hid (Rc (wr.drewN nq) w.heap.size P N R) := RC1.out.old ((Old.refl _).drewN nq)
      have c1' : (wr.drewN nq).cell? ⟨g, off + k, none⟩ = some (.int .i64 (x : Int)) := c1
      have c2' : (wr.drewN nq).cell? ⟨g, off + jj, none⟩ = some (.int .i64 (y : Int)) := c2
      have c3' : (wr.drewN nq).frozen? ⟨g, off + k, none⟩ = false := c3
      have c4' : (wr.drewN nq).frozen? ⟨g, off + jj, none⟩ = false := c4
      have z0' : (wr.drewN nq).cell? ⟨w.heap.size, 0, none⟩ = some (.int .i64 (P : Int)) := z0
      clear c1 c2 c3 c4 z0 HO1 HG1 RC1 e1 e2 e3 ew1
      generalize wr.drewN nq = W2 at *
      have e5 : (x : Int) + (q : Int) = ((x + q : Nat) : Int) := by simp
      have ewS : IntKind.i64.wrap ((x : Int) - (q : Int)) = (x : Int) - (q : Int) := by rw [IntKind.wrap_i64]; omega
      have e6 : (x : Int) - (q : Int) + (P : Int) = ((x + P - q : Nat) : Int) := by omega
      have hA : (x + q) % P < P := Nat.mod_lt _ (by omega)
      have hB : (x + P - q) % P < P := Nat.mod_lt _ (by omega)
      have b5 : x + q ≤ 600000000 := by omega
      have b6 : x + P - q ≤ 600000000 := by omega
      generalize x + q = sA at *
      generalize x + P - q = sB at *
      have ewA : IntKind.i64.wrap ((sA : Nat) : Int) = (sA : Int) := by rw [IntKind.wrap_i64]; omega
      have ewB : IntKind.i64.wrap ((sB : Nat) : Int) = (sB : Int) := by rw [IntKind.wrap_i64]; omega
      have mA : (sA : Int) % (P : Int) = ((sA % P : Nat) : Int) := by simp
      have mB : (sB : Int) % (P : Int) = ((sB % P : Nat) : Int) := by simp
      have tA : Int.tmod (sA : Int) (P : Int) = ((sA % P : Nat) : Int) := by rw [Int.tmod_eq_emod_of_nonneg (by omega)]; simp
      have tB : Int.tmod (sB : Int) (P : Int) = ((sB % P : Nat) : Int) := by rw [Int.tmod_eq_emod_of_nonneg (by omega)]; simp
      generalize sA % P = A at *
      generalize sB % P = B at *
      have HO3 : Hid (OwnI ((W2.setCell ⟨g, off + k, none⟩ (.int .i64 (A : Int))).setCell ⟨g, off + jj, none⟩ (.int .i64 (B : Int))) base g N (toZ (F (k + 1)))) := by
        show OwnI _ _ _ _ _
        rw [HSS.out]
        exact (HO2.out.put (off + k) _).put (off + jj) _
      have HG3 : Hid (w.grownBy ((W2.setCell ⟨g, off + k, none⟩ (.int .i64 (A : Int))).setCell ⟨g, off + jj, none⟩ (.int .i64 (B : Int))) (some g)) := gby_trans HG2.out (gby_trans (HO2.out.gby (off + k) _) ((HO2.out.put (off + k) _).gby (off + jj) _))
      have HR3 : Hid (Rc ((W2.setCell ⟨g, off + k, none⟩ (.int .i64 (A : Int))).setCell ⟨g, off + jj, none⟩ (.int .i64 (B : Int))) w.heap.size P N R) := (RC2.out.by_ (HO2.out.gby (off + k) _) (fun b hb => by injection hb with hb; omega)).by_ ((HO2.out.put (off + k) _).gby (off + jj) _) (fun b hb => by injection hb with hb; omega)
      clear HSS
      go_wp2_with fail
      go_region
      all_goals
        go_wp2_with fail
        exact ⟨⟨k + 1, by omega, by go_num, HO3.out, gby_drewN HG3.out 1, HR3.out.old ((Old.refl _).drewN 1)⟩, by simp [intOf]; omega⟩
    · have d1 : decide ((k : Int) < (hh : Int)) = false := by simp; omega
      obtain rfl : k = hh := by omega
      go_wp2_with fail
      go_end0
      exact ⟨rfl, HG1.out, HO1.out⟩
end Go.Proofs.YtfgooclnohnkmaaGreatDoor
