/- Proved: contracts of the program's sumBy and productBy of a conversion. -/
import Derived.Test.YtejkejfhahmhcaaDoorShr
namespace Go.Proofs.YtejkejfhahmhcaaDoor
open Go.ChangeShapes Go.WideShapes Go.ChangeAt Go.RowKit
open M2
set_option linter.unusedVariables false
set_option linter.unusedSimpArgs false
/-- the sum of the shares, each times the product of all others by m -/
def sbS (m : Nat) (ps ys : List Nat) : Nat → Nat
  | 0 => 0
  | k + 1 => sbS m ps ys k + ys.getD k 0 * pmN m (oth ps k)
/-- what a conversion holds, opened -/
structure Cv (w : World) (ps ys : List Nat) (vf vs : Value) : Prop where
  rf : Row w vf (toZ ps)
  ff : Fit vf
  rs : Row w vs (toZ ys)
  len : ys.length = ps.length
  n1 : 1 ≤ ps.length
  n6 : ps.length ≤ 6
  hi : ∀ p ∈ ps, p ≤ 268435456
  yb : ∀ i, i < ps.length → ys.getD i 0 ≤ 268435456
theorem Cv.old {w w' : World} {ps ys : List Nat} {vf vs : Value} (h : Cv w ps ys vf vs) (g : Old w w') : Cv w' ps ys vf vs :=
  ⟨h.rf.old g, h.ff, h.rs.old g, h.len, h.n1, h.n6, h.hi, h.yb⟩
/-- the cells of a conversion that is laid at block g -/
def BoxC (W : World) (g : Nat) (vf vs : Value) (o d : Int) : Prop := W.cell? ⟨g, 0, none⟩ = some vf ∧ W.cell? ⟨g, 1, none⟩ = some vs ∧ W.cell? ⟨g, 2, none⟩ = some (.int .i64 o) ∧ W.cell? ⟨g, 3, none⟩ = some (.int .i64 d)
theorem BoxC.new (w : World) (vf vs : Value) (o d : Int) (t : TypeId) : ∀ W, Old (w.alloc (.cells #[vf, vs, .int .i64 o, .int .i64 d] t)) W → BoxC W w.heap.size vf vs o d := fun W q =>
  ⟨(q.cell (p := ⟨w.heap.size, 0, none⟩) (by simp)).trans (cell_at _ _ _ _ _ rfl), (q.cell (p := ⟨w.heap.size, 1, none⟩) (by simp)).trans (cell_at _ _ _ _ _ rfl), (q.cell (p := ⟨w.heap.size, 2, none⟩) (by simp)).trans (cell_at _ _ _ _ _ rfl), (q.cell (p := ⟨w.heap.size, 3, none⟩) (by simp)).trans (cell_at _ _ _ _ _ rfl)⟩
set_option maxRecDepth 100000 in
set_option maxHeartbeats 2000000 in
theorem sumBy_any (m : Nat) (ps ys : List Nat) (vf vs : Value) (o d : Int) (w : World) (hm : 2 ≤ m ∧ m ≤ 268435456) (hc : Cv w ps ys vf vs) :
    Calls Tryd.prog 96 #[.agg #[vf, vs, .int .i64 o, .int .i64 d], .int .i64 m] w fun e w' => e = .returned (.int .i64 ((sbS m ps ys ps.length % m : Nat) : Int)) ∧ Old w w' := by
  have hl6 := hc.n6
  have hl1 := hc.n1
  have hln := hc.len
  have HU : Hid (Row w vf (toZ ps)) := hc.rf
  have HF : Hid (Fit vf) := hc.ff
  have HI : Hid (∀ p ∈ ps, p ≤ 268435456) := hc.hi
  have HYB : Hid (∀ i, i < ps.length → ys.getD i 0 ≤ 268435456) := hc.yb
  obtain ⟨fa, fc, rfl⟩ : ∃ a c, vf = .slice a ps.length c := by have := hc.rf.slice; rwa [toZ_len] at this
  obtain ⟨b, o1, cap, rfl, hb, hcc⟩ := hc.rs.atZ (by omega)
  rw [hln] at hcc ⊢
  have HC : Hid (∀ j, j < ps.length → w.cell? ⟨b, o1 + j, none⟩ = some (.int .i64 ((ys.getD j 0 : Nat) : Int))) := hcc
  have HBX := BoxC.new w (.slice fa ps.length fc) (.slice (some ⟨b, o1, none⟩) ps.length cap) o d 63
  have HB : Hid (∀ W, Old (w.alloc (.cells #[.slice fa ps.length fc, .slice (some ⟨b, o1, none⟩) ps.length cap, .int .i64 o, .int .i64 d] 63)) W → BoxC W w.heap.size (.slice fa ps.length fc) (.slice (some ⟨b, o1, none⟩) ps.length cap) o d) := HBX
  have HA : Hid (Old w (w.alloc (.cells #[.slice fa ps.length fc, .slice (some ⟨b, o1, none⟩) ps.length cap, .int .i64 o, .int .i64 d] 63))) := (Old.refl w).alloc _
  obtain ⟨R, hR⟩ : ∃ R, sbS m ps ys ps.length = R := ⟨_, rfl⟩
  rw [hR]
  have HRR : Hid (sbS m ps ys ps.length = R) := hR
  clear hc hcc HBX hR hln
  go_enter Tryd.func96, Tryd.ntmps96
  go_wp2_with fail
  generalize (w.alloc (.cells #[.slice fa ps.length fc, .slice (some ⟨b, o1, none⟩) ps.length cap, .int .i64 o, .int .i64 d] 63)) = w0 at *
  go_loopw [5, 11] (fun x i W => ∃ k q : Nat, k ≤ ps.length ∧ i = .int .i64 k ∧ x = .int .i64 q ∧ q ≤ k * 72057594037927936 ∧ Hid (sbS m ps ys k = q) ∧ Hid (Old w0 W)) (fun _ i _ => ps.length - (intOf i).toNat)
  case atStart => exact ⟨0, 0, by omega, rfl, rfl, by omega, rfl, Old.refl _⟩
  case round =>
    obtain ⟨k, q, hk, rfl, rfl, hq, HQ, HG⟩ := hrel
    have HG1 : Hid (Old w wr) := Old.trans HA.out HG.out
    by_cases hlt : k < ps.length
    · have d1 : decide ((k : Int) < (ps.length : Int)) = true := by simp; omega
      have i1 : (k : Int) < (ps.length : Int) := by omega
      have c1 : wr.cell? ⟨b, o1 + k, none⟩ = some (.int .i64 ((ys.getD k 0 : Nat) : Int)) := (HG1.out.cell (p := ⟨b, o1 + k, none⟩) hb).trans (HC.out k hlt)
      obtain ⟨z0, z1, z2, z3⟩ := HB.out wr HG.out
      have co := fun W h3 => others_any (toZ ps) (.slice fa ps.length fc) k W h3 HF.out (by rw [toZ_len]; exact hlt) (by rw [toZ_len]; omega)
      rw [oth_toZ] at co
      have cp := fun u W h3 => pmod_any m (oth ps k) u W hm h3 (Nat.le_trans (oth_len ps k) (by omega)) (fun p hp => HI.out p (oth_mem hp))
      have hpl := pmN_lt m (oth ps k) hm.1
      have hyb := HYB.out k hlt
      have HE : Hid (sbS m ps ys (k + 1) = q + ys.getD k 0 * pmN m (oth ps k)) := by show _ = _; rw [sbS, HQ.out]
      have hpr : ys.getD k 0 * pmN m (oth ps k) ≤ 72057594037927936 := Nat.le_trans (Nat.mul_le_mul hyb (show pmN m (oth ps k) ≤ 268435456 by omega)) (by decide)
      have t1 : IntKind.i64.wrap (((ys.getD k 0 : Nat) : Int) * ((pmN m (oth ps k) : Nat) : Int)) = ((ys.getD k 0 * pmN m (oth ps k) : Nat) : Int) := by rw [← Int.natCast_mul, IntKind.wrap_i64]; omega
      generalize ys.getD k 0 * pmN m (oth ps k) = z at *
      generalize ys.getD k 0 = y at *
      generalize pmN m (oth ps k) = r at *
      have hz6 : q + z ≤ (k + 1) * 72057594037927936 := by omega
      have t2 : IntKind.i64.wrap ((q : Int) + (z : Int)) = ((q + z : Nat) : Int) := by rw [← Int.natCast_add, IntKind.wrap_i64]; omega
      generalize q + z = q2 at *
      go_wp2_with fail
      refine (co _ (HU.out.old HG1.out)).mono ?_
      rintro e w2 ⟨v2, rfl, g2, o2⟩
      have HG2 : Hid (Old w0 w2) := Old.trans HG.out g2
      have HR2 : Hid (Row w2 v2 (toZ (oth ps k))) := Own.row o2
      obtain ⟨a2, cap2, rfl⟩ : ∃ a c, v2 = .slice a (oth ps k).length c := by have := (Own.row o2).slice; rwa [toZ_len] at this
      clear g2 o2
      go_wp2_with fail
      refine (cp _ _ HR2.out).mono ?_
      rintro e w3 ⟨rfl, g3⟩
      have HG3 : Hid (Old w0 w3) := Old.trans HG2.out g3
      clear g3
      go_wp2_with fail
      exact ⟨⟨k + 1, q2, by omega, by go_num, rfl, hz6, HE, HG3⟩, by simp [intOf]; omega⟩
    · have d1 : decide ((k : Int) < (ps.length : Int)) = false := by simp; omega
      obtain rfl : k = ps.length := by omega
      obtain rfl : q = R := by
        have := HQ.out
        rw [HRR.out] at this
        exact this.symm
      have hm0 : ¬ m = 0 := by omega
      have t3 : Int.tmod (q : Int) (m : Int) = ((q % m : Nat) : Int) := by rw [Int.tmod_eq_emod_of_nonneg (by omega)]; rfl
      go_wp2_with fail
      go_ret
      exact ⟨rfl, HG1.out⟩
set_option maxHeartbeats 1000000 in
theorem productBy_any (m : Nat) (ps ys : List Nat) (vf vs : Value) (o d : Int) (w : World) (hm : 2 ≤ m ∧ m ≤ 268435456) (hc : Cv w ps ys vf vs) :
    Calls Tryd.prog 109 #[.agg #[vf, vs, .int .i64 o, .int .i64 d], .int .i64 m] w fun e w' => e = .returned (.int .i64 ((pmN m ps : Nat) : Int)) ∧ Old w w' := by
  have hl6 := hc.n6
  have cp := fun W h3 => pmod_any m ps vf W hm h3 (by omega) hc.hi
  have HU : Hid (Row w vf (toZ ps)) := hc.rf
  obtain ⟨fa, fc, rfl⟩ : ∃ a c, vf = .slice a ps.length c := by have := hc.rf.slice; rwa [toZ_len] at this
  obtain ⟨sa, sc, rfl⟩ : ∃ a c, vs = .slice a ys.length c := by have := hc.rs.slice; rwa [toZ_len] at this
  have HA : Hid (Old w (w.alloc (.cells #[.slice fa ps.length fc, .slice sa ys.length sc, .int .i64 o, .int .i64 d] 63))) := (Old.refl w).alloc _
  generalize pmN m ps = r at *
  clear hc
  go_enter Tryd.func109, Tryd.ntmps109
  go_wp2_with fail
  refine (cp _ (HU.out.old HA.out)).mono ?_
  rintro e w3 ⟨rfl, g3⟩
  have HG3 : Hid (Old w w3) := Old.trans HA.out g3
  clear g3
  go_wp2_with fail
  go_ret
  exact ⟨rfl, HG3.out⟩
end Go.Proofs.YtejkejfhahmhcaaDoor
