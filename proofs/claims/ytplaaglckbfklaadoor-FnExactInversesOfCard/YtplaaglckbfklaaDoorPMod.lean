/- Proved: the program's product modulo a word. -/
import Derived.Test.YtplaaglckbfklaaDoorOth
import Derived.Test.YtplaaglckbfklaaDoorInv
namespace Go.Proofs.YtplaaglckbfklaaDoor
open Go.ChangeShapes Go.WideShapes Go.ChangeAt Go.RowKit
open M1
set_option linter.unusedVariables false
set_option linter.unusedSimpArgs false
/-- a product modulo m, factor by factor -/
def pmN (m : Nat) (ps : List Nat) : Nat := ps.foldl (fun a p => a * p % m) 1
theorem pmN_snoc (m : Nat) (ps : List Nat) (p : Nat) : pmN m (ps ++ [p]) = pmN m ps * p % m := by simp [pmN, List.foldl_append]
theorem pmN_take (m : Nat) (ps : List Nat) (k : Nat) (h : k < ps.length) : pmN m (ps.take (k + 1)) = pmN m (ps.take k) * ps.getD k 0 % m := by
  rw [← pmN_snoc]
  congr 1
  rw [List.take_add_one]
  congr 1
  simp [List.getD, h]
theorem pmN_lt (m : Nat) (ps : List Nat) (hm : 2 ≤ m) : pmN m ps < m := by
  rcases List.eq_nil_or_concat ps with h | ⟨qs, p, h⟩
  · subst h; simp [pmN]; omega
  · rw [h, List.concat_eq_append, pmN_snoc]; exact Nat.mod_lt _ (by omega)
theorem by_any (m x y : Nat) (w : World) (hm : 2 ≤ m ∧ m ≤ 268435456) (hx : x < m) (hy : y ≤ 268435456) :
    Calls Tryd.prog 204 #[.iface 182 (.int .u64 m), .int .i64 x, .int .i64 y] w fun e w' => e = .returned (.int .i64 ((x * y % m : Nat) : Int)) ∧ ∃ n, w' = w.drewN n := by
  have hb : x * y ≤ 268435456 * 268435456 := Nat.mul_le_mul (by omega) hy
  have c := fun W => product_small m x y (by omega) (by omega) (by omega) (by omega) (by omega) W
  have hz : x * y % m < m := Nat.mod_lt _ (by omega)
  generalize x * y % m = z at *
  clear hb
  go_enter Tryd.func204, Tryd.ntmps204
  go_wp2_with (go_at_call 215; refine (c _).mono ?_; rintro e w1 ⟨rfl, k1, rfl⟩)
  go_ret
  exact ⟨rfl, _, rfl⟩
theorem timesM_any (m x y g : Nat) (w : World) (hm : 2 ≤ m ∧ m ≤ 268435456) (hx : x < m) (hy : y ≤ 268435456) (hc : w.cell? ⟨g, 0, none⟩ = some (.int .u64 (m : Int))) :
    Calls Tryd.prog 203 #[.int .i64 x, .int .i64 y, .pointer (some ⟨g, 0, none⟩)] w fun e w' => e = .returned (.int .i64 ((x * y % m : Nat) : Int)) ∧ ∃ n, w' = w.drewN n := by
  have c := fun W => by_any m x y W hm hx hy
  generalize x * y % m = z at *
  go_enter Tryd.func203, Tryd.ntmps203
  go_wp2_with (go_at_call 204; refine (c _).mono ?_; rintro e w1 ⟨rfl, k1, rfl⟩)
  go_ret
  exact ⟨rfl, _, rfl⟩
set_option maxHeartbeats 1000000 in
theorem allM_any (m g : Nat) (ps : List Nat) (v : Value) (w : World) (hm : 2 ≤ m ∧ m ≤ 268435456) (hg : w.cell? ⟨g, 0, none⟩ = some (.int .u64 (m : Int))) (hv : Row w v (toZ ps)) (hl : ps.length ≤ 50) (hb : ∀ p ∈ ps, p ≤ 268435456) :
    Calls Tryd.prog 202 #[.func (.func 203) #[] #[.pointer (some ⟨g, 0, none⟩)], .int .i64 1, v] w fun e w' => e = .returned (.int .i64 ((pmN m ps : Nat) : Int)) ∧ Old w w' := by
  have HB : Hid (∀ p ∈ ps, p ≤ 268435456) := hb
  have HV : Hid (Row w v (toZ ps)) := hv
  have HGC : Hid (w.cell? ⟨g, 0, none⟩ = some (.int .u64 (m : Int))) := hg
  have hgl : g < w.heap.size := block_lt_of_cell hg
  obtain ⟨r, hr⟩ : ∃ r, pmN m ps = r := ⟨_, rfl⟩
  rw [hr]
  have HRR : Hid (pmN m ps = r) := hr
  obtain ⟨va, vc, rfl⟩ : ∃ a c, v = .slice a ps.length c := by have := hv.slice; rwa [toZ_len] at this
  clear hb hv hg hr
  go_enter Tryd.func202, Tryd.ntmps202
  go_wp2_with fail
  go_loopw [7, 13] (fun x i W => ∃ k q : Nat, k ≤ ps.length ∧ i = .int .i64 k ∧ x = .int .i64 q ∧ q < m ∧ Hid (pmN m (ps.take k) = q) ∧ Hid (Old w W)) (fun _ i _ => ps.length - (intOf i).toNat)
  case atStart => exact ⟨0, 1, by omega, rfl, rfl, by omega, rfl, Old.refl _⟩
  case round =>
    obtain ⟨k, q, hk, rfl, rfl, hq, HQ, HG⟩ := hrel
    by_cases hlt : k < ps.length
    · have d1 : decide ((k : Int) < (ps.length : Int)) = true := by simp; omega
      obtain ⟨b, o, rfl, hb, hc⟩ : ∃ b o, va = some ⟨b, o, none⟩ ∧ b < w.heap.size ∧ ∀ j, j < ps.length → w.cell? ⟨b, o + j, none⟩ = some (.int .i64 ((ps.getD j 0 : Nat) : Int)) := by
        rcases HV.out with ⟨a', cap', e, e2⟩ | ⟨b, o, cap', e, hb, h0, hc⟩
        · have := congrArg List.length e2
          rw [toZ_len] at this
          simp only [List.length_nil] at this
          omega
        · simp only [Value.slice.injEq] at e
          rw [toZ_len] at hc
          exact ⟨b, o, e.1, hb, fun j hj => by rw [hc j hj, toZ_get]⟩
      have c1 : wr.cell? ⟨b, o + k, none⟩ = some (.int .i64 ((ps.getD k 0 : Nat) : Int)) := (HG.out.cell (p := ⟨b, o + k, none⟩) hb).trans (hc k hlt)
      have hpb : ps.getD k 0 ≤ 268435456 := HB.out _ (by simp [List.getD, hlt])
      have HE : Hid (pmN m (ps.take (k + 1)) = q * ps.getD k 0 % m) := by show _ = _; rw [pmN_take m ps k hlt, HQ.out]
      have HCC : Hid (wr.cell? ⟨g, 0, none⟩ = some (.int .u64 (m : Int))) := (HG.out.cell (p := ⟨g, 0, none⟩) hgl).trans HGC.out
      have ct := timesM_any m q (ps.getD k 0) g wr hm hq hpb HCC.out
      have hz : q * ps.getD k 0 % m < m := Nat.mod_lt _ (by omega)
      clear hc HQ
      generalize q * ps.getD k 0 % m = y at *
      generalize ps.getD k 0 = p at *
      go_wp2_with (go_at_call 203; refine ct.mono ?_; rintro e w5 ⟨rfl, k5, rfl⟩)
      exact ⟨⟨k + 1, y, by omega, by go_num, rfl, hz, HE, HG.out.drewN _⟩, by simp [intOf]; omega⟩
    · have d1 : decide ((k : Int) < (ps.length : Int)) = false := by simp; omega
      obtain rfl : k = ps.length := by omega
      obtain rfl : q = r := by
        have := HQ.out
        rw [List.take_length, HRR.out] at this
        exact this.symm
      go_wp2_with fail
      go_ret
      exact ⟨rfl, HG.out⟩
theorem pmod_any (m : Nat) (ps : List Nat) (v : Value) (w : World) (hm : 2 ≤ m ∧ m ≤ 268435456) (hv : Row w v (toZ ps)) (hl : ps.length ≤ 50) (hb : ∀ p ∈ ps, p ≤ 268435456) :
    Calls Tryd.prog 179 #[.int .i64 m, v] w fun e w' => e = .returned (.int .i64 ((pmN m ps : Nat) : Int)) ∧ Old w w' := by
  have HV : Hid (Row w v (toZ ps)) := hv
  obtain ⟨va, vc, rfl⟩ : ∃ a c, v = .slice a ps.length c := by have := hv.slice; rwa [toZ_len] at this
  have c := fun g W h1 h2 => allM_any m g ps (.slice va ps.length vc) W hm h1 h2 hl hb
  generalize pmN m ps = r at *
  have hmf : ∀ (fn : Fn) (first cap : Array Value) (w : World), (Instr.makeFunc fn first cap).run Tryd.prog w = .ok (.func fn first cap) w := fun _ _ _ _ => rfl
  clear hv hb
  go_enter Tryd.func179, Tryd.ntmps179
  go_wp2_with fail
  refine (c _ _ (cell_at w _ _ _ 0 rfl) (HV.out.old ((Old.refl w).alloc _))).mono ?_
  rintro e w1 ⟨rfl, g1⟩
  have HG : Hid (Old w w1) := Old.trans ((Old.refl w).alloc _) g1
  clear g1
  go_wp2_with fail
  go_ret
  exact ⟨rfl, HG.out⟩
end Go.Proofs.YtplaaglckbfklaaDoor
