/- Proved: several texts in one: what each proves is said ahead of it. -/
import Derived.Test.YtpebikjckhcgfaaDoorZ17
/- Proved: the products one by one, of the program and of the model. -/
namespace Go.Proofs.YtpebikjckhcgfaaDoor
open Go.ChangeShapes Go.WideShapes Go.ChangeAt Go.RowKit
set_option linter.unusedVariables false
def eachN (P N : Nat) (xs ys : List Nat) : List Nat := (List.range N).map (fun k => xs.getD k 0 * ys.getD k 0 % P)
theorem eachN_len (P N : Nat) (xs ys : List Nat) : (eachN P N xs ys).length = N := by simp [eachN]
theorem eachN_get (P N : Nat) (xs ys : List Nat) (k : Nat) (h : k < N) : (eachN P N xs ys).getD k 0 = xs.getD k 0 * ys.getD k 0 % P := by simp [eachN, List.getD, h]
set_option maxRecDepth 100000 in
set_option maxHeartbeats 2000000 in
theorem impl_products (P N R : Nat) (xs ys : List Nat) (v u : Value) (w : World) (hv : Row w v (toZ xs)) (hu : Row w u (toZ ys)) (hP : 2 ≤ P ∧ P ≤ 268435456) (hN : 2 ≤ N ∧ N ≤ 16) (la : xs.length = N) (lb : ys.length = N) (ha : ∀ x ∈ xs, x < P) (hb : ∀ x ∈ ys, x < P) :
    Calls Tryd.prog 143 #[.agg #[.int .i64 P, .int .i64 N, .int .i64 R], v, u] w fun e w' => ∃ v', e = .returned v' ∧ Old w w' ∧ Own w' w.heap.size v' (toZ (eachN P N xs ys)) := by
  obtain ⟨i0, hi, hz0, hz1, hz2⟩ := info_parts Tryd.infoInt
  obtain ⟨b1, o1, cap1, rfl, hb1, hc1⟩ := hv.atZ (by omega)
  obtain ⟨b2, o2, cap2, rfl, hb2, hc2⟩ := hu.atZ (by omega)
  rw [la] at hc1 ⊢
  rw [lb] at hc2 ⊢
  have HC1 : Hid (∀ j, j < N → w.cell? ⟨b1, o1 + j, none⟩ = some (.int .i64 ((xs.getD j 0 : Nat) : Int))) := hc1
  have HC2 : Hid (∀ j, j < N → w.cell? ⟨b2, o2 + j, none⟩ = some (.int .i64 ((ys.getD j 0 : Nat) : Int))) := hc2
  have HE : Hid (∀ k, k < N → (toZ (eachN P N xs ys)).getD k 0 = ((xs.getD k 0 * ys.getD k 0 % P : Nat) : Int)) := fun k hk => by rw [toZ_get, eachN_get P N xs ys k hk]
  have hlen : (toZ (eachN P N xs ys)).length = N := by rw [toZ_len, eachN_len]
  have HA : Hid (∀ k, xs.getD k 0 < P) := fun k => getD_lt ha (by omega) k
  have HB : Hid (∀ k, ys.getD k 0 < P) := fun k => getD_lt hb (by omega) k
  generalize toZ (eachN P N xs ys) = zs at *
  clear hc1 hc2 hv hu la lb ha hb
  have RC0 : Hid (Rc (w.alloc (.cells #[.int .i64 P, .int .i64 N, .int .i64 R] 30)) w.heap.size P N R) := Rc.new w _ _ _
  have hpn : ¬ (P : Int) = 0 := by omega
  have hpn2 : ¬ P = 0 := by omega
  go_enter Tryd.func143, Tryd.ntmps143
  go_wp2_with (at_make; refine wpList_make_full _ rfl _ _ 23 rfl (w.heap.size + 1) 3 i0 (.int .i64 0) 1 Tryd.underlying23 hi hz0 hz1 .i64 .i64 _ _ N rfl rfl rfl rfl (by rw [hz2]; omega) (by unfold maxLen; omega) (by simp) ?_; intro w1 hown hgrow; have z1 := (RC0.out.by_ hgrow (fun k hk => by cases hk)).c1)
  have HO : Hid (OwnI w1 (w.heap.size + 1) (w.heap.size + 1) N (List.replicate N 0)) := by
    have e : (w.alloc (.cells #[.int .i64 P, .int .i64 N, .int .i64 R] 30)).heap.size = w.heap.size + 1 := by simp
    rw [made_ints, e] at hown
    exact hown
  have HG : Hid (Old (w.alloc (.cells #[.int .i64 P, .int .i64 N, .int .i64 R] 30)) w1) := Old.by_ (Old.refl _) hgrow (fun b hb => by cases hb)
  have HSZ : Hid ((w.alloc (.cells #[.int .i64 P, .int .i64 N, .int .i64 R] 30)).heap.size = w.heap.size + 1) := by show _ = _; simp
  clear hown hgrow z1
  go_loopw [8, 14] (fun x i W => ∃ k : Nat, k ≤ N ∧ i = .int .i64 k ∧ Hid (OwnI W (w.heap.size + 1) (w.heap.size + 1) N (fillN zs k)) ∧ Hid (Old (w.alloc (.cells #[.int .i64 P, .int .i64 N, .int .i64 R] 30)) W)) (fun _ i _ => N - (intOf i).toNat)
  case atStart => exact ⟨0, by omega, rfl, (by show OwnI _ _ _ _ _; rw [fillN_zero, hlen]; exact HO.out), HG⟩
  case round =>
    obtain ⟨k, hk, rfl, HO1, HG2⟩ := hrel
    clear HO HG
    have HG1 : Hid (Old w wr) := Old.trans ((Old.refl w).alloc _) HG2.out
    have RC2 : Hid (Rc wr w.heap.size P N R) := RC0.out.old HG2.out
    by_cases hlt : k < N
    · have d1 : decide ((k : Int) < (N : Int)) = true := by simp; omega
      have i1 : (k : Int) < (N : Int) := by omega
      have c1 : wr.cell? ⟨b1, o1 + k, none⟩ = some (.int .i64 ((xs.getD k 0 : Nat) : Int)) := (HG1.out.cell (p := ⟨b1, o1 + k, none⟩) hb1).trans (HC1.out k hlt)
      have c2 : wr.cell? ⟨b2, o2 + k, none⟩ = some (.int .i64 ((ys.getD k 0 : Nat) : Int)) := (HG1.out.cell (p := ⟨b2, o2 + k, none⟩) hb2).trans (HC2.out k hlt)
      have z0 := RC2.out.c0
      have c3 := HO1.out.get (fillN_len zs k (by omega) |>.trans hlen) k hlt
      have c4 := HO1.out.free k
      have HX : Hid (zs.getD k 0 = ((xs.getD k 0 * ys.getD k 0 % P : Nat) : Int)) := HE.out k hlt
      have hx := HA.out k
      have hy := HB.out k
      have hm := mul_lt28 _ _ P hx hy hP.2
      generalize xs.getD k 0 = x at *
      generalize ys.getD k 0 = y at *
      generalize (fillN zs k).getD k 0 = oldv at *
      have e1 : (x : Int) * (y : Int) = ((x * y : Nat) : Int) := by simp
      have HP : Hid (OwnI (wr.setCell ⟨w.heap.size + 1, k, none⟩ (.int .i64 ((x * y % P : Nat) : Int))) (w.heap.size + 1) (w.heap.size + 1) N (fillN zs (k + 1))) := by
        have := HO1.out.put k ((x * y % P : Nat) : Int)
        rw [← HX.out, fillN_set zs k (by omega)] at this
        rw [← HX.out]
        exact this
      have e2 : ((x * y : Nat) : Int) % (P : Int) = ((x * y % P : Nat) : Int) := by simp
      generalize x * y = m at *
      generalize m % P = q at *
      go_wp2_with fail
      have HN2 : Hid (Old (w.alloc (.cells #[.int .i64 P, .int .i64 N, .int .i64 R] 30)) (wr.setCell ⟨w.heap.size + 1, k, none⟩ (.int .i64 (q : Int)))) := HG2.out.own (by have := HSZ.out; simp; try omega) _
      go_region
      go_wp2_with fail
      exact ⟨⟨k + 1, by omega, by go_num, HP.out, HN2.out.drewN 1⟩, by simp [intOf]; omega⟩
    · have d1 : decide ((k : Int) < (N : Int)) = false := by simp; omega
      obtain rfl : k = N := by omega
      have HF : Hid (Own wr (w.heap.size + 1) (.slice (some ⟨w.heap.size + 1, 0, none⟩) k k) zs) := by
        have := HO1.out.own ((fillN_len zs k (by omega)).trans hlen)
        rw [show fillN zs k = zs by rw [← hlen]; exact fillN_all zs] at this
        exact this
      go_wp2_with fail
      go_ret
      exact ⟨_, rfl, HG1.out, HF.out.low (by omega)⟩
end Go.Proofs.YtpebikjckhcgfaaDoor
