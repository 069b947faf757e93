/- Proved: the contract of the program's inverseAt. -/
import Derived.Test.YtplaaglckbfklaaDoorPMod
import Derived.Deep.RegionHeld3
namespace Go.Proofs.YtplaaglckbfklaaDoor
open Go.ChangeShapes Go.WideShapes Go.ChangeAt Go.RowKit
open M1
set_option linter.unusedVariables false
set_option linter.unusedSimpArgs false
/-- all but the one at place i -/
def oth (ps : List Nat) (i : Nat) : List Nat := ps.take i ++ ps.drop (i + 1)
theorem oth_toZ (ps : List Nat) (i : Nat) : (toZ ps).take i ++ (toZ ps).drop (i + 1) = toZ (oth ps i) := by simp [oth, toZ, List.map_take, List.map_drop]
theorem oth_mem {ps : List Nat} {i p : Nat} (h : p ∈ oth ps i) : p ∈ ps := by
  rcases List.mem_append.1 h with h | h
  · exact List.mem_of_mem_take h
  · exact List.mem_of_mem_drop h
theorem oth_len (ps : List Nat) (i : Nat) : (oth ps i).length ≤ ps.length := by simp [oth]; omega
/-- the inverse of the product of all others -/
def ivN (ps : List Nat) (i : Nat) : Nat := invM (pmN (ps.getD i 0) (oth ps i)) (ps.getD i 0)
theorem Old.drwI {a b : World} (h : Old a b) : Old a b.drew := Below.drew h
set_option maxRecDepth 100000 in
set_option maxHeartbeats 4000000 in
theorem inverseAt_any (ps : List Nat) (v : Value) (i : Nat) (w : World) (hv : Row w v (toZ ps)) (hf : Fit v) (hi : i < ps.length) (hl : ps.length ≤ 50) (hlo : ∀ p ∈ ps, 2 ≤ p) (hhi : ∀ p ∈ ps, p ≤ 268435456) :
    Calls Tryd.prog 131 #[v, .int .i64 i] w fun e w' => e = .returned (.int .i64 ((ivN ps i : Nat) : Int)) ∧ Old w w' := by
  have hm : ps.getD i 0 ∈ ps := by simp [List.getD, hi]
  have m1 := hlo _ hm
  have m2 := hhi _ hm
  have co := fun W h3 => others_any (toZ ps) v i W h3 hf (by rw [toZ_len]; exact hi) (by rw [toZ_len]; exact hl)
  rw [oth_toZ] at co
  have cp := fun u W h3 => pmod_any (ps.getD i 0) (oth ps i) u W ⟨m1, m2⟩ h3 (Nat.le_trans (oth_len ps i) hl) (fun p hp => hhi p (oth_mem hp))
  have hlt := pmN_lt (ps.getD i 0) (oth ps i) m1
  have ci := fun W => impl_InvMod_yes ((pmN (ps.getD i 0) (oth ps i) : Nat) : Int) ((ps.getD i 0 : Nat) : Int) W (by omega) (decide_eq_true ⟨by omega, by omega⟩)
  have ei : ((((pmN (ps.getD i 0) (oth ps i) : Nat) : Int) % ((ps.getD i 0 : Nat) : Int)).toNat) = pmN (ps.getD i 0) (oth ps i) := by
    rw [← Int.natCast_emod, Nat.mod_eq_of_lt hlt, Int.toNat_natCast]
  rw [ei, Int.toNat_natCast] at ci
  have HIV : Hid (invM (pmN (ps.getD i 0) (oth ps i)) (ps.getD i 0) = ivN ps i) := rfl
  rw [HIV.out] at ci
  have HV : Hid (Row w v (toZ ps)) := hv
  obtain ⟨b, o, cap, rfl, hb, hc⟩ := hv.atZ (by omega)
  have HC : Hid (w.cell? ⟨b, o + i, none⟩ = some (.int .i64 ((ps.getD i 0 : Nat) : Int))) := hc i hi
  clear hv hf hc hm hlo hhi ei HIV
  generalize ivN ps i = z at *
  generalize pmN (ps.getD i 0) (oth ps i) = q at *
  generalize ps.getD i 0 = m at *
  have HAS : Hid (∀ W', Old w W' → W'.cell? ⟨b, o + i, none⟩ = some (.int .i64 (m : Int))) := fun W' g => (g.cell (p := ⟨b, o + i, none⟩) hb).trans HC.out
  have i1 : (i : Int) < (ps.length : Int) := by omega
  go_enter Tryd.func131, Tryd.ntmps131
  go_wp2_with fail
  go_region_held3 (fun W' => W'.cell? ⟨b, o + i, none⟩ = some (.int .i64 (m : Int))) (first | exact HAS.out _ (by repeat' (first | exact Old.refl _ | exact G3.out | exact G2.out | exact G1.out | refine Old.drwI ?_ | fail)) | fail) (first
    | (go_at_call 129; refine (co _ (HV.out.old (by repeat' (first | exact Old.refl _ | refine Old.drwI ?_ | fail)))).mono ?_; rintro e w1 ⟨v1, rfl, g1, o1⟩; have G1 : Hid (Old w w1) := Old.trans (by repeat' (first | exact Old.refl _ | refine Old.drwI ?_ | fail)) g1; have R1 : Hid (Row w1 v1 (toZ (oth ps i))) := Own.row o1; obtain ⟨va1, vc1, rfl⟩ : ∃ a c, v1 = .slice a (oth ps i).length c := (by have := (Own.row o1).slice; rwa [toZ_len] at this); clear g1 o1)
    | (go_at_call 179; refine (cp _ _ R1.out).mono ?_; rintro e w2 ⟨rfl, g2⟩; have G2 : Hid (Old w w2) := Old.trans G1.out g2; clear g2)
    | (go_at_call 160; refine (ci _).mono ?_; rintro e w3 ⟨rfl, hw3⟩; have G3 : Hid (Old w w3) := (by rw [hw3]; exact G2.out); clear hw3)
    | fail)
  all_goals
    go_wp2_with fail
    go_ret
    exact ⟨rfl, G3.out⟩
end Go.Proofs.YtplaaglckbfklaaDoor
