/- Proved: several texts in one: what each proves is said ahead of it. -/
import Derived.Test.YtpebikjckhcgfaaDoorZ04
import Derived.KernelRfl
/- Proved: the two drawn regions of the model's product in a ring: a number is added to one place, or taken away. -/
namespace Go.Proofs.YtpebikjckhcgfaaDoor
open Go.ChangeShapes Go.WideShapes Go.ChangeAt Go.RowKit
set_option linter.unusedVariables false
set_option linter.unusedSimpArgs false
def regionAtmul (n : Nat) : Code → Option Code
  | .region i ops b => if i = n then some (.region i ops b) else none
  | .seq a b => match regionAtmul n a with
    | some c => some c
    | none => regionAtmul n b
  | .block _ c => regionAtmul n c
  | .loop c => regionAtmul n c
  | .cond _ a b => match regionAtmul n a with
    | some c => some c
    | none => regionAtmul n b
  | _ => none
def slotMladd (i : Nat) : Nat := [42, 43, 44, 45, 46, 47, 48, 49, 50, 51, 52, 53, 54, 55, 56, 57].getD i 0
theorem slotMladd_lt : ∀ i, i < 16 → slotMladd i < 86 := by decide
theorem slotMladd_inj : ∀ i, i < 16 → ∀ j, j < 16 → slotMladd i = slotMladd j → i = j := by decide
theorem slotMladd_no : ∀ s, s < 13 → ∀ i, i < 16 → slotMladd i ≠ s := by decide
set_option maxRecDepth 100000 in
set_option maxHeartbeats 4000000 in
theorem reg_Mladd (w0 : World) (g rb i k m N P L z Z cap : Nat) (hm : (i : Int) + (k : Int) = (m : Int)) (bm : m < N) (bN : N ≤ 16) (bP : P ≤ 268435456) (p0 : ¬ P = 0) (bL : L < P) (bz : z < P) (hZ : ((L : Int) + (z : Int)) % (P : Int) = (Z : Int)) (hZ2 : ((L : Int) + (z : Int)).tmod (P : Int) = (Z : Int))
    (cL : w0.cell? ⟨g, m, none⟩ = some (.int .i64 L)) (fL : w0.frozen? ⟨g, m, none⟩ = false) (cP : w0.cell? ⟨rb, 0, none⟩ = some (.int .i64 P)) (cN : w0.cell? ⟨rb, 1, none⟩ = some (.int .i64 N))
    (Q : Exit → Act → World → Prop) (a0 : Act) (hsz : a0.tmps.size = 86)
    (ha3 : a0.eval (.tmp 3) = .pointer (some ⟨rb, 0, none⟩)) (ha7 : a0.eval (.tmp 7) = .slice (some ⟨g, 0, none⟩) N cap) (ha8 : a0.eval (.tmp 8) = .int .i64 i) (ha10 : a0.eval (.tmp 10) = .int .i64 k) (ha12 : a0.eval (.tmp 12) = .int .i64 z)
    (HK : Hid (∀ (us : Nat → Value) W, Old w0 W → Q .normal (putAll a0 ((List.range 16).map fun i => (slotMladd i, us i))) (W.setCell ⟨g, m, none⟩ (.int .i64 Z)))) :
    Code.wp Tryd.prog ((Tryd.f73.body.bind (regionAtmul 10)).getD .skip) Q a0 w0 := by
  conv => arg 2; whnf
  have hg := block_lt_of_cell cL
  have hr := block_lt_of_cell cP
  have un := slotMladd_no
  let cs : List Value := [.slice (some ⟨g, 0, none⟩) N cap, .int .i64 i, .int .i64 k, .int .i64 m, .slice (some ⟨g, 0, none⟩) N cap, .int .i64 i, .int .i64 k, .int .i64 m, .pointer (some ⟨g, m, none⟩), .int .i64 L, .int .i64 z, .int .i64 ((L : Int) + z), .pointer (some ⟨rb, 0, none⟩), .int .i64 P, .int .i64 Z, .pointer (some ⟨g, m, none⟩)]
  refine wp_region_end 16 rfl rfl (by kernel_rfl) (by kernel_rfl) (by kernel_rfl) (by kernel_rfl) slotMladd (fun i hi => by rw [hsz]; exact slotMladd_lt i hi) (fun i j hi hj => slotMladd_inj i hi j hj) (fun i _ v => v = cs.getD i undef) (fun _ _ _ _ h _ => h) ?_ ?_
  · refine ⟨?_, ?_, ?_, ?_, ?_, ?_, ?_, ?_, ?_, ?_, ?_, ?_, ?_, ?_, ?_, ?_, trivial⟩
    · intro a W gg hF hd
      have e3 := (hF.same 3 (un 3 (by decide))).trans ha3
      have e7 := (hF.same 7 (un 7 (by decide))).trans ha7
      have e8 := (hF.same 8 (un 8 (by decide))).trans ha8
      have e10 := (hF.same 10 (un 10 (by decide))).trans ha10
      have e12 := (hF.same 12 (un 12 (by decide))).trans ha12
      have k1 := (gg.cell (p := ⟨g, m, none⟩) hg).trans cL
      have k2 := (gg.cell (p := ⟨rb, 0, none⟩) hr).trans cP
      have k3 := (gg.cell (p := ⟨rb, 1, none⟩) hr).trans cN
      obtain ⟨ρ, hρ⟩ : ∃ ρ, a.eval = ρ := ⟨_, rfl⟩
      rw [hρ] at hd e3 e7 e8 e10 e12
      simp [Region.binds, slotMladd, cs] at hd
      refine op_val ρ hρ (.slice (some ⟨g, 0, none⟩) N cap) ?_ ⟨_, rfl, Old.refl _, rfl⟩
      clear gg hF hρ cL fL cP cN ha3 ha7 ha8 ha10 ha12 HK un
      go_simp
      all_goals (rw [IntKind.wrap_i64]; omega)
    · intro a W gg hF hd
      have e3 := (hF.same 3 (un 3 (by decide))).trans ha3
      have e7 := (hF.same 7 (un 7 (by decide))).trans ha7
      have e8 := (hF.same 8 (un 8 (by decide))).trans ha8
      have e10 := (hF.same 10 (un 10 (by decide))).trans ha10
      have e12 := (hF.same 12 (un 12 (by decide))).trans ha12
      have k1 := (gg.cell (p := ⟨g, m, none⟩) hg).trans cL
      have k2 := (gg.cell (p := ⟨rb, 0, none⟩) hr).trans cP
      have k3 := (gg.cell (p := ⟨rb, 1, none⟩) hr).trans cN
      obtain ⟨ρ, hρ⟩ : ∃ ρ, a.eval = ρ := ⟨_, rfl⟩
      rw [hρ] at hd e3 e7 e8 e10 e12
      simp [Region.binds, slotMladd, cs] at hd
      refine op_val ρ hρ (.int .i64 i) ?_ ⟨_, rfl, Old.refl _, rfl⟩
      clear gg hF hρ cL fL cP cN ha3 ha7 ha8 ha10 ha12 HK un
      go_simp
      all_goals (rw [IntKind.wrap_i64]; omega)
    · intro a W gg hF hd
      have e3 := (hF.same 3 (un 3 (by decide))).trans ha3
      have e7 := (hF.same 7 (un 7 (by decide))).trans ha7
      have e8 := (hF.same 8 (un 8 (by decide))).trans ha8
      have e10 := (hF.same 10 (un 10 (by decide))).trans ha10
      have e12 := (hF.same 12 (un 12 (by decide))).trans ha12
      have k1 := (gg.cell (p := ⟨g, m, none⟩) hg).trans cL
      have k2 := (gg.cell (p := ⟨rb, 0, none⟩) hr).trans cP
      have k3 := (gg.cell (p := ⟨rb, 1, none⟩) hr).trans cN
      obtain ⟨ρ, hρ⟩ : ∃ ρ, a.eval = ρ := ⟨_, rfl⟩
      rw [hρ] at hd e3 e7 e8 e10 e12
      simp [Region.binds, slotMladd, cs] at hd
      refine op_val ρ hρ (.int .i64 k) ?_ ⟨_, rfl, Old.refl _, rfl⟩
      clear gg hF hρ cL fL cP cN ha3 ha7 ha8 ha10 ha12 HK un
      go_simp
      all_goals (rw [IntKind.wrap_i64]; omega)
    · intro a W gg hF hd
      have e3 := (hF.same 3 (un 3 (by decide))).trans ha3
      have e7 := (hF.same 7 (un 7 (by decide))).trans ha7
      have e8 := (hF.same 8 (un 8 (by decide))).trans ha8
      have e10 := (hF.same 10 (un 10 (by decide))).trans ha10
      have e12 := (hF.same 12 (un 12 (by decide))).trans ha12
      have k1 := (gg.cell (p := ⟨g, m, none⟩) hg).trans cL
      have k2 := (gg.cell (p := ⟨rb, 0, none⟩) hr).trans cP
      have k3 := (gg.cell (p := ⟨rb, 1, none⟩) hr).trans cN
      obtain ⟨ρ, hρ⟩ : ∃ ρ, a.eval = ρ := ⟨_, rfl⟩
      rw [hρ] at hd e3 e7 e8 e10 e12
      simp [Region.binds, slotMladd, cs] at hd
      refine op_val ρ hρ (.int .i64 m) ?_ ⟨_, rfl, Old.refl _, rfl⟩
      clear gg hF hρ cL fL cP cN ha3 ha7 ha8 ha10 ha12 HK un
      go_simp
      all_goals (rw [IntKind.wrap_i64]; omega)
    · intro a W gg hF hd
      have e3 := (hF.same 3 (un 3 (by decide))).trans ha3
      have e7 := (hF.same 7 (un 7 (by decide))).trans ha7
      have e8 := (hF.same 8 (un 8 (by decide))).trans ha8
      have e10 := (hF.same 10 (un 10 (by decide))).trans ha10
      have e12 := (hF.same 12 (un 12 (by decide))).trans ha12
      have k1 := (gg.cell (p := ⟨g, m, none⟩) hg).trans cL
      have k2 := (gg.cell (p := ⟨rb, 0, none⟩) hr).trans cP
      have k3 := (gg.cell (p := ⟨rb, 1, none⟩) hr).trans cN
      obtain ⟨ρ, hρ⟩ : ∃ ρ, a.eval = ρ := ⟨_, rfl⟩
      rw [hρ] at hd e3 e7 e8 e10 e12
      simp [Region.binds, slotMladd, cs] at hd
      refine op_val ρ hρ (.slice (some ⟨g, 0, none⟩) N cap) ?_ ⟨_, rfl, Old.refl _, rfl⟩
      clear gg hF hρ cL fL cP cN ha3 ha7 ha8 ha10 ha12 HK un
      go_simp
      all_goals (rw [IntKind.wrap_i64]; omega)
    · intro a W gg hF hd
      have e3 := (hF.same 3 (un 3 (by decide))).trans ha3
      have e7 := (hF.same 7 (un 7 (by decide))).trans ha7
      have e8 := (hF.same 8 (un 8 (by decide))).trans ha8
      have e10 := (hF.same 10 (un 10 (by decide))).trans ha10
      have e12 := (hF.same 12 (un 12 (by decide))).trans ha12
      have k1 := (gg.cell (p := ⟨g, m, none⟩) hg).trans cL
      have k2 := (gg.cell (p := ⟨rb, 0, none⟩) hr).trans cP
      have k3 := (gg.cell (p := ⟨rb, 1, none⟩) hr).trans cN
      obtain ⟨ρ, hρ⟩ : ∃ ρ, a.eval = ρ := ⟨_, rfl⟩
      rw [hρ] at hd e3 e7 e8 e10 e12
      simp [Region.binds, slotMladd, cs] at hd
      refine op_val ρ hρ (.int .i64 i) ?_ ⟨_, rfl, Old.refl _, rfl⟩
      clear gg hF hρ cL fL cP cN ha3 ha7 ha8 ha10 ha12 HK un
      go_simp
      all_goals (rw [IntKind.wrap_i64]; omega)
    · intro a W gg hF hd
      have e3 := (hF.same 3 (un 3 (by decide))).trans ha3
      have e7 := (hF.same 7 (un 7 (by decide))).trans ha7
      have e8 := (hF.same 8 (un 8 (by decide))).trans ha8
      have e10 := (hF.same 10 (un 10 (by decide))).trans ha10
      have e12 := (hF.same 12 (un 12 (by decide))).trans ha12
      have k1 := (gg.cell (p := ⟨g, m, none⟩) hg).trans cL
      have k2 := (gg.cell (p := ⟨rb, 0, none⟩) hr).trans cP
      have k3 := (gg.cell (p := ⟨rb, 1, none⟩) hr).trans cN
      obtain ⟨ρ, hρ⟩ : ∃ ρ, a.eval = ρ := ⟨_, rfl⟩
      rw [hρ] at hd e3 e7 e8 e10 e12
      simp [Region.binds, slotMladd, cs] at hd
      refine op_val ρ hρ (.int .i64 k) ?_ ⟨_, rfl, Old.refl _, rfl⟩
      clear gg hF hρ cL fL cP cN ha3 ha7 ha8 ha10 ha12 HK un
      go_simp
      all_goals (rw [IntKind.wrap_i64]; omega)
    · intro a W gg hF hd
      have e3 := (hF.same 3 (un 3 (by decide))).trans ha3
      have e7 := (hF.same 7 (un 7 (by decide))).trans ha7
      have e8 := (hF.same 8 (un 8 (by decide))).trans ha8
      have e10 := (hF.same 10 (un 10 (by decide))).trans ha10
      have e12 := (hF.same 12 (un 12 (by decide))).trans ha12
      have k1 := (gg.cell (p := ⟨g, m, none⟩) hg).trans cL
      have k2 := (gg.cell (p := ⟨rb, 0, none⟩) hr).trans cP
      have k3 := (gg.cell (p := ⟨rb, 1, none⟩) hr).trans cN
      obtain ⟨ρ, hρ⟩ : ∃ ρ, a.eval = ρ := ⟨_, rfl⟩
      rw [hρ] at hd e3 e7 e8 e10 e12
      simp [Region.binds, slotMladd, cs] at hd
      refine op_val ρ hρ (.int .i64 m) ?_ ⟨_, rfl, Old.refl _, rfl⟩
      clear gg hF hρ cL fL cP cN ha3 ha7 ha8 ha10 ha12 HK un
      go_simp
      all_goals (rw [IntKind.wrap_i64]; omega)
    · intro a W gg hF hd
      have e3 := (hF.same 3 (un 3 (by decide))).trans ha3
      have e7 := (hF.same 7 (un 7 (by decide))).trans ha7
      have e8 := (hF.same 8 (un 8 (by decide))).trans ha8
      have e10 := (hF.same 10 (un 10 (by decide))).trans ha10
      have e12 := (hF.same 12 (un 12 (by decide))).trans ha12
      have k1 := (gg.cell (p := ⟨g, m, none⟩) hg).trans cL
      have k2 := (gg.cell (p := ⟨rb, 0, none⟩) hr).trans cP
      have k3 := (gg.cell (p := ⟨rb, 1, none⟩) hr).trans cN
      obtain ⟨ρ, hρ⟩ : ∃ ρ, a.eval = ρ := ⟨_, rfl⟩
      rw [hρ] at hd e3 e7 e8 e10 e12
      simp [Region.binds, slotMladd, cs] at hd
      refine op_val ρ hρ (.pointer (some ⟨g, m, none⟩)) ?_ ⟨_, rfl, Old.refl _, rfl⟩
      clear gg hF hρ cL fL cP cN ha3 ha7 ha8 ha10 ha12 HK un
      go_simp
      all_goals (rw [IntKind.wrap_i64]; omega)
    · intro a W gg hF hd
      have e3 := (hF.same 3 (un 3 (by decide))).trans ha3
      have e7 := (hF.same 7 (un 7 (by decide))).trans ha7
      have e8 := (hF.same 8 (un 8 (by decide))).trans ha8
      have e10 := (hF.same 10 (un 10 (by decide))).trans ha10
      have e12 := (hF.same 12 (un 12 (by decide))).trans ha12
      have k1 := (gg.cell (p := ⟨g, m, none⟩) hg).trans cL
      have k2 := (gg.cell (p := ⟨rb, 0, none⟩) hr).trans cP
      have k3 := (gg.cell (p := ⟨rb, 1, none⟩) hr).trans cN
      obtain ⟨ρ, hρ⟩ : ∃ ρ, a.eval = ρ := ⟨_, rfl⟩
      rw [hρ] at hd e3 e7 e8 e10 e12
      simp [Region.binds, slotMladd, cs] at hd
      refine op_val ρ hρ (.int .i64 L) ?_ ⟨_, rfl, Old.refl _, rfl⟩
      clear gg hF hρ cL fL cP cN ha3 ha7 ha8 ha10 ha12 HK un
      go_simp
      all_goals (rw [IntKind.wrap_i64]; omega)
    · intro a W gg hF hd
      have e3 := (hF.same 3 (un 3 (by decide))).trans ha3
      have e7 := (hF.same 7 (un 7 (by decide))).trans ha7
      have e8 := (hF.same 8 (un 8 (by decide))).trans ha8
      have e10 := (hF.same 10 (un 10 (by decide))).trans ha10
      have e12 := (hF.same 12 (un 12 (by decide))).trans ha12
      have k1 := (gg.cell (p := ⟨g, m, none⟩) hg).trans cL
      have k2 := (gg.cell (p := ⟨rb, 0, none⟩) hr).trans cP
      have k3 := (gg.cell (p := ⟨rb, 1, none⟩) hr).trans cN
      obtain ⟨ρ, hρ⟩ : ∃ ρ, a.eval = ρ := ⟨_, rfl⟩
      rw [hρ] at hd e3 e7 e8 e10 e12
      simp [Region.binds, slotMladd, cs] at hd
      refine op_val ρ hρ (.int .i64 z) ?_ ⟨_, rfl, Old.refl _, rfl⟩
      clear gg hF hρ cL fL cP cN ha3 ha7 ha8 ha10 ha12 HK un
      go_simp
      all_goals (rw [IntKind.wrap_i64]; omega)
    · intro a W gg hF hd
      have e3 := (hF.same 3 (un 3 (by decide))).trans ha3
      have e7 := (hF.same 7 (un 7 (by decide))).trans ha7
      have e8 := (hF.same 8 (un 8 (by decide))).trans ha8
      have e10 := (hF.same 10 (un 10 (by decide))).trans ha10
      have e12 := (hF.same 12 (un 12 (by decide))).trans ha12
      have k1 := (gg.cell (p := ⟨g, m, none⟩) hg).trans cL
      have k2 := (gg.cell (p := ⟨rb, 0, none⟩) hr).trans cP
      have k3 := (gg.cell (p := ⟨rb, 1, none⟩) hr).trans cN
      obtain ⟨ρ, hρ⟩ : ∃ ρ, a.eval = ρ := ⟨_, rfl⟩
      rw [hρ] at hd e3 e7 e8 e10 e12
      simp [Region.binds, slotMladd, cs] at hd
      refine op_val ρ hρ (.int .i64 ((L : Int) + z)) ?_ ⟨_, rfl, Old.refl _, rfl⟩
      clear gg hF hρ cL fL cP cN ha3 ha7 ha8 ha10 ha12 HK un
      go_simp
      all_goals (rw [IntKind.wrap_i64]; omega)
    · intro a W gg hF hd
      have e3 := (hF.same 3 (un 3 (by decide))).trans ha3
      have e7 := (hF.same 7 (un 7 (by decide))).trans ha7
      have e8 := (hF.same 8 (un 8 (by decide))).trans ha8
      have e10 := (hF.same 10 (un 10 (by decide))).trans ha10
      have e12 := (hF.same 12 (un 12 (by decide))).trans ha12
      have k1 := (gg.cell (p := ⟨g, m, none⟩) hg).trans cL
      have k2 := (gg.cell (p := ⟨rb, 0, none⟩) hr).trans cP
      have k3 := (gg.cell (p := ⟨rb, 1, none⟩) hr).trans cN
      obtain ⟨ρ, hρ⟩ : ∃ ρ, a.eval = ρ := ⟨_, rfl⟩
      rw [hρ] at hd e3 e7 e8 e10 e12
      simp [Region.binds, slotMladd, cs] at hd
      refine op_val ρ hρ (.pointer (some ⟨rb, 0, none⟩)) ?_ ⟨_, rfl, Old.refl _, rfl⟩
      clear gg hF hρ cL fL cP cN ha3 ha7 ha8 ha10 ha12 HK un
      go_simp
      all_goals (rw [IntKind.wrap_i64]; omega)
    · intro a W gg hF hd
      have e3 := (hF.same 3 (un 3 (by decide))).trans ha3
      have e7 := (hF.same 7 (un 7 (by decide))).trans ha7
      have e8 := (hF.same 8 (un 8 (by decide))).trans ha8
      have e10 := (hF.same 10 (un 10 (by decide))).trans ha10
      have e12 := (hF.same 12 (un 12 (by decide))).trans ha12
      have k1 := (gg.cell (p := ⟨g, m, none⟩) hg).trans cL
      have k2 := (gg.cell (p := ⟨rb, 0, none⟩) hr).trans cP
      have k3 := (gg.cell (p := ⟨rb, 1, none⟩) hr).trans cN
      obtain ⟨ρ, hρ⟩ : ∃ ρ, a.eval = ρ := ⟨_, rfl⟩
      rw [hρ] at hd e3 e7 e8 e10 e12
      simp [Region.binds, slotMladd, cs] at hd
      refine op_val ρ hρ (.int .i64 P) ?_ ⟨_, rfl, Old.refl _, rfl⟩
      clear gg hF hρ cL fL cP cN ha3 ha7 ha8 ha10 ha12 HK un
      go_simp
      all_goals (rw [IntKind.wrap_i64]; omega)
    · intro a W gg hF hd
      have e3 := (hF.same 3 (un 3 (by decide))).trans ha3
      have e7 := (hF.same 7 (un 7 (by decide))).trans ha7
      have e8 := (hF.same 8 (un 8 (by decide))).trans ha8
      have e10 := (hF.same 10 (un 10 (by decide))).trans ha10
      have e12 := (hF.same 12 (un 12 (by decide))).trans ha12
      have k1 := (gg.cell (p := ⟨g, m, none⟩) hg).trans cL
      have k2 := (gg.cell (p := ⟨rb, 0, none⟩) hr).trans cP
      have k3 := (gg.cell (p := ⟨rb, 1, none⟩) hr).trans cN
      obtain ⟨ρ, hρ⟩ : ∃ ρ, a.eval = ρ := ⟨_, rfl⟩
      rw [hρ] at hd e3 e7 e8 e10 e12
      simp [Region.binds, slotMladd, cs] at hd
      refine op_val ρ hρ (.int .i64 Z) ?_ ⟨_, rfl, Old.refl _, rfl⟩
      clear gg hF hρ cL fL cP cN ha3 ha7 ha8 ha10 ha12 HK un
      go_simp
      all_goals (rw [IntKind.wrap_i64]; omega)
    · intro a W gg hF hd
      have e3 := (hF.same 3 (un 3 (by decide))).trans ha3
      have e7 := (hF.same 7 (un 7 (by decide))).trans ha7
      have e8 := (hF.same 8 (un 8 (by decide))).trans ha8
      have e10 := (hF.same 10 (un 10 (by decide))).trans ha10
      have e12 := (hF.same 12 (un 12 (by decide))).trans ha12
      have k1 := (gg.cell (p := ⟨g, m, none⟩) hg).trans cL
      have k2 := (gg.cell (p := ⟨rb, 0, none⟩) hr).trans cP
      have k3 := (gg.cell (p := ⟨rb, 1, none⟩) hr).trans cN
      obtain ⟨ρ, hρ⟩ : ∃ ρ, a.eval = ρ := ⟨_, rfl⟩
      rw [hρ] at hd e3 e7 e8 e10 e12
      simp [Region.binds, slotMladd, cs] at hd
      refine op_val ρ hρ (.pointer (some ⟨g, m, none⟩)) ?_ ⟨_, rfl, Old.refl _, rfl⟩
      clear gg hF hρ cL fL cP cN ha3 ha7 ha8 ha10 ha12 HK un
      go_simp
      all_goals (rw [IntKind.wrap_i64]; omega)
  · intro a W gg hF hq
    have q1 := hq 15 (by decide)
    have q2 := hq 14 (by decide)
    simp [slotMladd, cs] at q1 q2
    have k1 := (gg.cell (p := ⟨g, m, none⟩) hg).trans cL
    have k4 : W.frozen? ⟨g, m, none⟩ = false := (World.frozen?_of_block (gg.block g hg)).trans fL
    have hp := fram_put hF (fun i j hi hj => slotMladd_inj i hi j hj)
    have hk := HK.out (fun i => a.eval (.tmp (slotMladd i))) W gg
    rw [← hp] at hk
    obtain ⟨ρ, hρ⟩ : ∃ ρ, a.eval = ρ := ⟨_, rfl⟩
    rw [hρ] at q1 q2
    refine op_skp (W' := W.setCell ⟨g, m, none⟩ (.int .i64 Z)) ρ hρ ?_ hk
    clear hk hp hF hq gg hρ cL fL cP cN ha3 ha7 ha8 ha10 ha12 HK un
    go_simp
def slotMlsub (i : Nat) : Nat := [58, 59, 60, 61, 62, 63, 64, 65, 66, 67, 68, 69, 70, 71, 72, 73, 74, 75, 76, 77, 78, 79, 80, 81, 82].getD i 0
theorem slotMlsub_lt : ∀ i, i < 25 → slotMlsub i < 86 := by decide
theorem slotMlsub_inj : ∀ i, i < 25 → ∀ j, j < 25 → slotMlsub i = slotMlsub j → i = j := by decide
theorem slotMlsub_no : ∀ s, s < 13 → ∀ i, i < 25 → slotMlsub i ≠ s := by decide
set_option maxRecDepth 100000 in
set_option maxHeartbeats 4000000 in
theorem reg_Mlsub (w0 : World) (g rb i k m N P L z Z cap : Nat) (S : Nat) (hm : (i : Int) + (k : Int) = (S : Int)) (hS : (S : Int) - (N : Int) = (m : Int)) (bm : m < N) (bN : N ≤ 16) (bP : P ≤ 268435456) (p0 : ¬ P = 0) (bL : L < P) (bz : z < P) (hZ : ((L : Int) + (P : Int) - (z : Int)) % (P : Int) = (Z : Int)) (hZ2 : ((L : Int) + (P : Int) - (z : Int)).tmod (P : Int) = (Z : Int))
    (cL : w0.cell? ⟨g, m, none⟩ = some (.int .i64 L)) (fL : w0.frozen? ⟨g, m, none⟩ = false) (cP : w0.cell? ⟨rb, 0, none⟩ = some (.int .i64 P)) (cN : w0.cell? ⟨rb, 1, none⟩ = some (.int .i64 N))
    (Q : Exit → Act → World → Prop) (a0 : Act) (hsz : a0.tmps.size = 86)
    (ha3 : a0.eval (.tmp 3) = .pointer (some ⟨rb, 0, none⟩)) (ha7 : a0.eval (.tmp 7) = .slice (some ⟨g, 0, none⟩) N cap) (ha8 : a0.eval (.tmp 8) = .int .i64 i) (ha10 : a0.eval (.tmp 10) = .int .i64 k) (ha12 : a0.eval (.tmp 12) = .int .i64 z)
    (HK : Hid (∀ (us : Nat → Value) W, Old w0 W → Q .normal (putAll a0 ((List.range 25).map fun i => (slotMlsub i, us i))) (W.setCell ⟨g, m, none⟩ (.int .i64 Z)))) :
    Code.wp Tryd.prog ((Tryd.f73.body.bind (regionAtmul 11)).getD .skip) Q a0 w0 := by
  conv => arg 2; whnf
  have hg := block_lt_of_cell cL
  have hr := block_lt_of_cell cP
  have un := slotMlsub_no
  let cs : List Value := [.slice (some ⟨g, 0, none⟩) N cap, .int .i64 i, .int .i64 k, .int .i64 S, .pointer (some ⟨rb, 1, none⟩), .int .i64 N, .int .i64 m, .slice (some ⟨g, 0, none⟩) N cap, .int .i64 i, .int .i64 k, .int .i64 S, .pointer (some ⟨rb, 1, none⟩), .int .i64 N, .int .i64 m, .pointer (some ⟨g, m, none⟩), .int .i64 L, .pointer (some ⟨rb, 0, none⟩), .int .i64 P, .int .i64 ((L : Int) + P), .int .i64 z, .int .i64 ((L : Int) + P - z), .pointer (some ⟨rb, 0, none⟩), .int .i64 P, .int .i64 Z, .pointer (some ⟨g, m, none⟩)]
  refine wp_region_end 25 rfl rfl (by kernel_rfl) (by kernel_rfl) (by kernel_rfl) (by kernel_rfl) slotMlsub (fun i hi => by rw [hsz]; exact slotMlsub_lt i hi) (fun i j hi hj => slotMlsub_inj i hi j hj) (fun i _ v => v = cs.getD i undef) (fun _ _ _ _ h _ => h) ?_ ?_
  · refine ⟨?_, ?_, ?_, ?_, ?_, ?_, ?_, ?_, ?_, ?_, ?_, ?_, ?_, ?_, ?_, ?_, ?_, ?_, ?_, ?_, ?_, ?_, ?_, ?_, ?_, trivial⟩
    · intro a W gg hF hd
      have e3 := (hF.same 3 (un 3 (by decide))).trans ha3
      have e7 := (hF.same 7 (un 7 (by decide))).trans ha7
      have e8 := (hF.same 8 (un 8 (by decide))).trans ha8
      have e10 := (hF.same 10 (un 10 (by decide))).trans ha10
      have e12 := (hF.same 12 (un 12 (by decide))).trans ha12
      have k1 := (gg.cell (p := ⟨g, m, none⟩) hg).trans cL
      have k2 := (gg.cell (p := ⟨rb, 0, none⟩) hr).trans cP
      have k3 := (gg.cell (p := ⟨rb, 1, none⟩) hr).trans cN
      obtain ⟨ρ, hρ⟩ : ∃ ρ, a.eval = ρ := ⟨_, rfl⟩
      rw [hρ] at hd e3 e7 e8 e10 e12
      simp [Region.binds, slotMlsub, cs] at hd
      refine op_val ρ hρ (.slice (some ⟨g, 0, none⟩) N cap) ?_ ⟨_, rfl, Old.refl _, rfl⟩
      clear gg hF hρ cL fL cP cN ha3 ha7 ha8 ha10 ha12 HK un
      go_simp
      all_goals (rw [IntKind.wrap_i64]; omega)
    · intro a W gg hF hd
      have e3 := (hF.same 3 (un 3 (by decide))).trans ha3
      have e7 := (hF.same 7 (un 7 (by decide))).trans ha7
      have e8 := (hF.same 8 (un 8 (by decide))).trans ha8
      have e10 := (hF.same 10 (un 10 (by decide))).trans ha10
      have e12 := (hF.same 12 (un 12 (by decide))).trans ha12
      have k1 := (gg.cell (p := ⟨g, m, none⟩) hg).trans cL
      have k2 := (gg.cell (p := ⟨rb, 0, none⟩) hr).trans cP
      have k3 := (gg.cell (p := ⟨rb, 1, none⟩) hr).trans cN
      obtain ⟨ρ, hρ⟩ : ∃ ρ, a.eval = ρ := ⟨_, rfl⟩
      rw [hρ] at hd e3 e7 e8 e10 e12
      simp [Region.binds, slotMlsub, cs] at hd
      refine op_val ρ hρ (.int .i64 i) ?_ ⟨_, rfl, Old.refl _, rfl⟩
      clear gg hF hρ cL fL cP cN ha3 ha7 ha8 ha10 ha12 HK un
      go_simp
      all_goals (rw [IntKind.wrap_i64]; omega)
    · intro a W gg hF hd
      have e3 := (hF.same 3 (un 3 (by decide))).trans ha3
      have e7 := (hF.same 7 (un 7 (by decide))).trans ha7
      have e8 := (hF.same 8 (un 8 (by decide))).trans ha8
      have e10 := (hF.same 10 (un 10 (by decide))).trans ha10
      have e12 := (hF.same 12 (un 12 (by decide))).trans ha12
      have k1 := (gg.cell (p := ⟨g, m, none⟩) hg).trans cL
      have k2 := (gg.cell (p := ⟨rb, 0, none⟩) hr).trans cP
      have k3 := (gg.cell (p := ⟨rb, 1, none⟩) hr).trans cN
      obtain ⟨ρ, hρ⟩ : ∃ ρ, a.eval = ρ := ⟨_, rfl⟩
      rw [hρ] at hd e3 e7 e8 e10 e12
      simp [Region.binds, slotMlsub, cs] at hd
      refine op_val ρ hρ (.int .i64 k) ?_ ⟨_, rfl, Old.refl _, rfl⟩
      clear gg hF hρ cL fL cP cN ha3 ha7 ha8 ha10 ha12 HK un
      go_simp
      all_goals (rw [IntKind.wrap_i64]; omega)
    · intro a W gg hF hd
      have e3 := (hF.same 3 (un 3 (by decide))).trans ha3
      have e7 := (hF.same 7 (un 7 (by decide))).trans ha7
      have e8 := (hF.same 8 (un 8 (by decide))).trans ha8
      have e10 := (hF.same 10 (un 10 (by decide))).trans ha10
      have e12 := (hF.same 12 (un 12 (by decide))).trans ha12
      have k1 := (gg.cell (p := ⟨g, m, none⟩) hg).trans cL
      have k2 := (gg.cell (p := ⟨rb, 0, none⟩) hr).trans cP
      have k3 := (gg.cell (p := ⟨rb, 1, none⟩) hr).trans cN
      obtain ⟨ρ, hρ⟩ : ∃ ρ, a.eval = ρ := ⟨_, rfl⟩
      rw [hρ] at hd e3 e7 e8 e10 e12
      simp [Region.binds, slotMlsub, cs] at hd
      refine op_val ρ hρ (.int .i64 S) ?_ ⟨_, rfl, Old.refl _, rfl⟩
      clear gg hF hρ cL fL cP cN ha3 ha7 ha8 ha10 ha12 HK un
      go_simp
      all_goals (rw [IntKind.wrap_i64]; omega)
    · intro a W gg hF hd
      have e3 := (hF.same 3 (un 3 (by decide))).trans ha3
      have e7 := (hF.same 7 (un 7 (by decide))).trans ha7
      have e8 := (hF.same 8 (un 8 (by decide))).trans ha8
      have e10 := (hF.same 10 (un 10 (by decide))).trans ha10
      have e12 := (hF.same 12 (un 12 (by decide))).trans ha12
      have k1 := (gg.cell (p := ⟨g, m, none⟩) hg).trans cL
      have k2 := (gg.cell (p := ⟨rb, 0, none⟩) hr).trans cP
      have k3 := (gg.cell (p := ⟨rb, 1, none⟩) hr).trans cN
      obtain ⟨ρ, hρ⟩ : ∃ ρ, a.eval = ρ := ⟨_, rfl⟩
      rw [hρ] at hd e3 e7 e8 e10 e12
      simp [Region.binds, slotMlsub, cs] at hd
      refine op_val ρ hρ (.pointer (some ⟨rb, 1, none⟩)) ?_ ⟨_, rfl, Old.refl _, rfl⟩
      clear gg hF hρ cL fL cP cN ha3 ha7 ha8 ha10 ha12 HK un
      go_simp
      all_goals (rw [IntKind.wrap_i64]; omega)
    · intro a W gg hF hd
      have e3 := (hF.same 3 (un 3 (by decide))).trans ha3
      have e7 := (hF.same 7 (un 7 (by decide))).trans ha7
      have e8 := (hF.same 8 (un 8 (by decide))).trans ha8
      have e10 := (hF.same 10 (un 10 (by decide))).trans ha10
      have e12 := (hF.same 12 (un 12 (by decide))).trans ha12
      have k1 := (gg.cell (p := ⟨g, m, none⟩) hg).trans cL
      have k2 := (gg.cell (p := ⟨rb, 0, none⟩) hr).trans cP
      have k3 := (gg.cell (p := ⟨rb, 1, none⟩) hr).trans cN
      obtain ⟨ρ, hρ⟩ : ∃ ρ, a.eval = ρ := ⟨_, rfl⟩
      rw [hρ] at hd e3 e7 e8 e10 e12
      simp [Region.binds, slotMlsub, cs] at hd
      refine op_val ρ hρ (.int .i64 N) ?_ ⟨_, rfl, Old.refl _, rfl⟩
      clear gg hF hρ cL fL cP cN ha3 ha7 ha8 ha10 ha12 HK un
      go_simp
      all_goals (rw [IntKind.wrap_i64]; omega)
    · intro a W gg hF hd
      have e3 := (hF.same 3 (un 3 (by decide))).trans ha3
      have e7 := (hF.same 7 (un 7 (by decide))).trans ha7
      have e8 := (hF.same 8 (un 8 (by decide))).trans ha8
      have e10 := (hF.same 10 (un 10 (by decide))).trans ha10
      have e12 := (hF.same 12 (un 12 (by decide))).trans ha12
      have k1 := (gg.cell (p := ⟨g, m, none⟩) hg).trans cL
      have k2 := (gg.cell (p := ⟨rb, 0, none⟩) hr).trans cP
      have k3 := (gg.cell (p := ⟨rb, 1, none⟩) hr).trans cN
      obtain ⟨ρ, hρ⟩ : ∃ ρ, a.eval = ρ := ⟨_, rfl⟩
      rw [hρ] at hd e3 e7 e8 e10 e12
      simp [Region.binds, slotMlsub, cs] at hd
      refine op_val ρ hρ (.int .i64 m) ?_ ⟨_, rfl, Old.refl _, rfl⟩
      clear gg hF hρ cL fL cP cN ha3 ha7 ha8 ha10 ha12 HK un
      go_simp
      all_goals (rw [IntKind.wrap_i64]; omega)
    · intro a W gg hF hd
      have e3 := (hF.same 3 (un 3 (by decide))).trans ha3
      have e7 := (hF.same 7 (un 7 (by decide))).trans ha7
      have e8 := (hF.same 8 (un 8 (by decide))).trans ha8
      have e10 := (hF.same 10 (un 10 (by decide))).trans ha10
      have e12 := (hF.same 12 (un 12 (by decide))).trans ha12
      have k1 := (gg.cell (p := ⟨g, m, none⟩) hg).trans cL
      have k2 := (gg.cell (p := ⟨rb, 0, none⟩) hr).trans cP
      have k3 := (gg.cell (p := ⟨rb, 1, none⟩) hr).trans cN
      obtain ⟨ρ, hρ⟩ : ∃ ρ, a.eval = ρ := ⟨_, rfl⟩
      rw [hρ] at hd e3 e7 e8 e10 e12
      simp [Region.binds, slotMlsub, cs] at hd
      refine op_val ρ hρ (.slice (some ⟨g, 0, none⟩) N cap) ?_ ⟨_, rfl, Old.refl _, rfl⟩
      clear gg hF hρ cL fL cP cN ha3 ha7 ha8 ha10 ha12 HK un
      go_simp
      all_goals (rw [IntKind.wrap_i64]; omega)
    · intro a W gg hF hd
      have e3 := (hF.same 3 (un 3 (by decide))).trans ha3
      have e7 := (hF.same 7 (un 7 (by decide))).trans ha7
      have e8 := (hF.same 8 (un 8 (by decide))).trans ha8
      have e10 := (hF.same 10 (un 10 (by decide))).trans ha10
      have e12 := (hF.same 12 (un 12 (by decide))).trans ha12
      have k1 := (gg.cell (p := ⟨g, m, none⟩) hg).trans cL
      have k2 := (gg.cell (p := ⟨rb, 0, none⟩) hr).trans cP
      have k3 := (gg.cell (p := ⟨rb, 1, none⟩) hr).trans cN
      obtain ⟨ρ, hρ⟩ : ∃ ρ, a.eval = ρ := ⟨_, rfl⟩
      rw [hρ] at hd e3 e7 e8 e10 e12
      simp [Region.binds, slotMlsub, cs] at hd
      refine op_val ρ hρ (.int .i64 i) ?_ ⟨_, rfl, Old.refl _, rfl⟩
      clear gg hF hρ cL fL cP cN ha3 ha7 ha8 ha10 ha12 HK un
      go_simp
      all_goals (rw [IntKind.wrap_i64]; omega)
    · intro a W gg hF hd
      have e3 := (hF.same 3 (un 3 (by decide))).trans ha3
      have e7 := (hF.same 7 (un 7 (by decide))).trans ha7
      have e8 := (hF.same 8 (un 8 (by decide))).trans ha8
      have e10 := (hF.same 10 (un 10 (by decide))).trans ha10
      have e12 := (hF.same 12 (un 12 (by decide))).trans ha12
      have k1 := (gg.cell (p := ⟨g, m, none⟩) hg).trans cL
      have k2 := (gg.cell (p := ⟨rb, 0, none⟩) hr).trans cP
      have k3 := (gg.cell (p := ⟨rb, 1, none⟩) hr).trans cN
      obtain ⟨ρ, hρ⟩ : ∃ ρ, a.eval = ρ := ⟨_, rfl⟩
      rw [hρ] at hd e3 e7 e8 e10 e12
      simp [Region.binds, slotMlsub, cs] at hd
      refine op_val ρ hρ (.int .i64 k) ?_ ⟨_, rfl, Old.refl _, rfl⟩
      clear gg hF hρ cL fL cP cN ha3 ha7 ha8 ha10 ha12 HK un
      go_simp
      all_goals (rw [IntKind.wrap_i64]; omega)
    · intro a W gg hF hd
      have e3 := (hF.same 3 (un 3 (by decide))).trans ha3
      have e7 := (hF.same 7 (un 7 (by decide))).trans ha7
      have e8 := (hF.same 8 (un 8 (by decide))).trans ha8
      have e10 := (hF.same 10 (un 10 (by decide))).trans ha10
      have e12 := (hF.same 12 (un 12 (by decide))).trans ha12
      have k1 := (gg.cell (p := ⟨g, m, none⟩) hg).trans cL
      have k2 := (gg.cell (p := ⟨rb, 0, none⟩) hr).trans cP
      have k3 := (gg.cell (p := ⟨rb, 1, none⟩) hr).trans cN
      obtain ⟨ρ, hρ⟩ : ∃ ρ, a.eval = ρ := ⟨_, rfl⟩
      rw [hρ] at hd e3 e7 e8 e10 e12
      simp [Region.binds, slotMlsub, cs] at hd
      refine op_val ρ hρ (.int .i64 S) ?_ ⟨_, rfl, Old.refl _, rfl⟩
      clear gg hF hρ cL fL cP cN ha3 ha7 ha8 ha10 ha12 HK un
      go_simp
      all_goals (rw [IntKind.wrap_i64]; omega)
    · intro a W gg hF hd
      have e3 := (hF.same 3 (un 3 (by decide))).trans ha3
      have e7 := (hF.same 7 (un 7 (by decide))).trans ha7
      have e8 := (hF.same 8 (un 8 (by decide))).trans ha8
      have e10 := (hF.same 10 (un 10 (by decide))).trans ha10
      have e12 := (hF.same 12 (un 12 (by decide))).trans ha12
      have k1 := (gg.cell (p := ⟨g, m, none⟩) hg).trans cL
      have k2 := (gg.cell (p := ⟨rb, 0, none⟩) hr).trans cP
      have k3 := (gg.cell (p := ⟨rb, 1, none⟩) hr).trans cN
      obtain ⟨ρ, hρ⟩ : ∃ ρ, a.eval = ρ := ⟨_, rfl⟩
      rw [hρ] at hd e3 e7 e8 e10 e12
      simp [Region.binds, slotMlsub, cs] at hd
      refine op_val ρ hρ (.pointer (some ⟨rb, 1, none⟩)) ?_ ⟨_, rfl, Old.refl _, rfl⟩
      clear gg hF hρ cL fL cP cN ha3 ha7 ha8 ha10 ha12 HK un
      go_simp
      all_goals (rw [IntKind.wrap_i64]; omega)
    · intro a W gg hF hd
      have e3 := (hF.same 3 (un 3 (by decide))).trans ha3
      have e7 := (hF.same 7 (un 7 (by decide))).trans ha7
      have e8 := (hF.same 8 (un 8 (by decide))).trans ha8
      have e10 := (hF.same 10 (un 10 (by decide))).trans ha10
      have e12 := (hF.same 12 (un 12 (by decide))).trans ha12
      have k1 := (gg.cell (p := ⟨g, m, none⟩) hg).trans cL
      have k2 := (gg.cell (p := ⟨rb, 0, none⟩) hr).trans cP
      have k3 := (gg.cell (p := ⟨rb, 1, none⟩) hr).trans cN
      obtain ⟨ρ, hρ⟩ : ∃ ρ, a.eval = ρ := ⟨_, rfl⟩
      rw [hρ] at hd e3 e7 e8 e10 e12
      simp [Region.binds, slotMlsub, cs] at hd
      refine op_val ρ hρ (.int .i64 N) ?_ ⟨_, rfl, Old.refl _, rfl⟩
      clear gg hF hρ cL fL cP cN ha3 ha7 ha8 ha10 ha12 HK un
      go_simp
      all_goals (rw [IntKind.wrap_i64]; omega)
    · intro a W gg hF hd
      have e3 := (hF.same 3 (un 3 (by decide))).trans ha3
      have e7 := (hF.same 7 (un 7 (by decide))).trans ha7
      have e8 := (hF.same 8 (un 8 (by decide))).trans ha8
      have e10 := (hF.same 10 (un 10 (by decide))).trans ha10
      have e12 := (hF.same 12 (un 12 (by decide))).trans ha12
      have k1 := (gg.cell (p := ⟨g, m, none⟩) hg).trans cL
      have k2 := (gg.cell (p := ⟨rb, 0, none⟩) hr).trans cP
      have k3 := (gg.cell (p := ⟨rb, 1, none⟩) hr).trans cN
      obtain ⟨ρ, hρ⟩ : ∃ ρ, a.eval = ρ := ⟨_, rfl⟩
      rw [hρ] at hd e3 e7 e8 e10 e12
      simp [Region.binds, slotMlsub, cs] at hd
      refine op_val ρ hρ (.int .i64 m) ?_ ⟨_, rfl, Old.refl _, rfl⟩
      clear gg hF hρ cL fL cP cN ha3 ha7 ha8 ha10 ha12 HK un
      go_simp
      all_goals (rw [IntKind.wrap_i64]; omega)
    · intro a W gg hF hd
      have e3 := (hF.same 3 (un 3 (by decide))).trans ha3
      have e7 := (hF.same 7 (un 7 (by decide))).trans ha7
      have e8 := (hF.same 8 (un 8 (by decide))).trans ha8
      have e10 := (hF.same 10 (un 10 (by decide))).trans ha10
      have e12 := (hF.same 12 (un 12 (by decide))).trans ha12
      have k1 := (gg.cell (p := ⟨g, m, none⟩) hg).trans cL
      have k2 := (gg.cell (p := ⟨rb, 0, none⟩) hr).trans cP
      have k3 := (gg.cell (p := ⟨rb, 1, none⟩) hr).trans cN
      obtain ⟨ρ, hρ⟩ : ∃ ρ, a.eval = ρ := ⟨_, rfl⟩
      rw [hρ] at hd e3 e7 e8 e10 e12
      simp [Region.binds, slotMlsub, cs] at hd
      refine op_val ρ hρ (.pointer (some ⟨g, m, none⟩)) ?_ ⟨_, rfl, Old.refl _, rfl⟩
      clear gg hF hρ cL fL cP cN ha3 ha7 ha8 ha10 ha12 HK un
      go_simp
      all_goals (rw [IntKind.wrap_i64]; omega)
    · intro a W gg hF hd
      have e3 := (hF.same 3 (un 3 (by decide))).trans ha3
      have e7 := (hF.same 7 (un 7 (by decide))).trans ha7
      have e8 := (hF.same 8 (un 8 (by decide))).trans ha8
      have e10 := (hF.same 10 (un 10 (by decide))).trans ha10
      have e12 := (hF.same 12 (un 12 (by decide))).trans ha12
      have k1 := (gg.cell (p := ⟨g, m, none⟩) hg).trans cL
      have k2 := (gg.cell (p := ⟨rb, 0, none⟩) hr).trans cP
      have k3 := (gg.cell (p := ⟨rb, 1, none⟩) hr).trans cN
      obtain ⟨ρ, hρ⟩ : ∃ ρ, a.eval = ρ := ⟨_, rfl⟩
      rw [hρ] at hd e3 e7 e8 e10 e12
      simp [Region.binds, slotMlsub, cs] at hd
      refine op_val ρ hρ (.int .i64 L) ?_ ⟨_, rfl, Old.refl _, rfl⟩
      clear gg hF hρ cL fL cP cN ha3 ha7 ha8 ha10 ha12 HK un
      go_simp
      all_goals (rw [IntKind.wrap_i64]; omega)
    · intro a W gg hF hd
      have e3 := (hF.same 3 (un 3 (by decide))).trans ha3
      have e7 := (hF.same 7 (un 7 (by decide))).trans ha7
      have e8 := (hF.same 8 (un 8 (by decide))).trans ha8
      have e10 := (hF.same 10 (un 10 (by decide))).trans ha10
      have e12 := (hF.same 12 (un 12 (by decide))).trans ha12
      have k1 := (gg.cell (p := ⟨g, m, none⟩) hg).trans cL
      have k2 := (gg.cell (p := ⟨rb, 0, none⟩) hr).trans cP
      have k3 := (gg.cell (p := ⟨rb, 1, none⟩) hr).trans cN
      obtain ⟨ρ, hρ⟩ : ∃ ρ, a.eval = ρ := ⟨_, rfl⟩
      rw [hρ] at hd e3 e7 e8 e10 e12
      simp [Region.binds, slotMlsub, cs] at hd
      refine op_val ρ hρ (.pointer (some ⟨rb, 0, none⟩)) ?_ ⟨_, rfl, Old.refl _, rfl⟩
      clear gg hF hρ cL fL cP cN ha3 ha7 ha8 ha10 ha12 HK un
      go_simp
      all_goals (rw [IntKind.wrap_i64]; omega)
    · intro a W gg hF hd
      have e3 := (hF.same 3 (un 3 (by decide))).trans ha3
      have e7 := (hF.same 7 (un 7 (by decide))).trans ha7
      have e8 := (hF.same 8 (un 8 (by decide))).trans ha8
      have e10 := (hF.same 10 (un 10 (by decide))).trans ha10
      have e12 := (hF.same 12 (un 12 (by decide))).trans ha12
      have k1 := (gg.cell (p := ⟨g, m, none⟩) hg).trans cL
      have k2 := (gg.cell (p := ⟨rb, 0, none⟩) hr).trans cP
      have k3 := (gg.cell (p := ⟨rb, 1, none⟩) hr).trans cN
      obtain ⟨ρ, hρ⟩ : ∃ ρ, a.eval = ρ := ⟨_, rfl⟩
      rw [hρ] at hd e3 e7 e8 e10 e12
      simp [Region.binds, slotMlsub, cs] at hd
      refine op_val ρ hρ (.int .i64 P) ?_ ⟨_, rfl, Old.refl _, rfl⟩
      clear gg hF hρ cL fL cP cN ha3 ha7 ha8 ha10 ha12 HK un
      go_simp
      all_goals (rw [IntKind.wrap_i64]; omega)
    · intro a W gg hF hd
      have e3 := (hF.same 3 (un 3 (by decide))).trans ha3
      have e7 := (hF.same 7 (un 7 (by decide))).trans ha7
      have e8 := (hF.same 8 (un 8 (by decide))).trans ha8
      have e10 := (hF.same 10 (un 10 (by decide))).trans ha10
      have e12 := (hF.same 12 (un 12 (by decide))).trans ha12
      have k1 := (gg.cell (p := ⟨g, m, none⟩) hg).trans cL
      have k2 := (gg.cell (p := ⟨rb, 0, none⟩) hr).trans cP
      have k3 := (gg.cell (p := ⟨rb, 1, none⟩) hr).trans cN
      obtain ⟨ρ, hρ⟩ : ∃ ρ, a.eval = ρ := ⟨_, rfl⟩
      rw [hρ] at hd e3 e7 e8 e10 e12
      simp [Region.binds, slotMlsub, cs] at hd
      refine op_val ρ hρ (.int .i64 ((L : Int) + P)) ?_ ⟨_, rfl, Old.refl _, rfl⟩
      clear gg hF hρ cL fL cP cN ha3 ha7 ha8 ha10 ha12 HK un
      go_simp
      all_goals (rw [IntKind.wrap_i64]; omega)
    · intro a W gg hF hd
      have e3 := (hF.same 3 (un 3 (by decide))).trans ha3
      have e7 := (hF.same 7 (un 7 (by decide))).trans ha7
      have e8 := (hF.same 8 (un 8 (by decide))).trans ha8
      have e10 := (hF.same 10 (un 10 (by decide))).trans ha10
      have e12 := (hF.same 12 (un 12 (by decide))).trans ha12
      have k1 := (gg.cell (p := ⟨g, m, none⟩) hg).trans cL
      have k2 := (gg.cell (p := ⟨rb, 0, none⟩) hr).trans cP
      have k3 := (gg.cell (p := ⟨rb, 1, none⟩) hr).trans cN
      obtain ⟨ρ, hρ⟩ : ∃ ρ, a.eval = ρ := ⟨_, rfl⟩
      rw [hρ] at hd e3 e7 e8 e10 e12
      simp [Region.binds, slotMlsub, cs] at hd
      refine op_val ρ hρ (.int .i64 z) ?_ ⟨_, rfl, Old.refl _, rfl⟩
      clear gg hF hρ cL fL cP cN ha3 ha7 ha8 ha10 ha12 HK un
      go_simp
      all_goals (rw [IntKind.wrap_i64]; omega)
    · intro a W gg hF hd
      have e3 := (hF.same 3 (un 3 (by decide))).trans ha3
      have e7 := (hF.same 7 (un 7 (by decide))).trans ha7
      have e8 := (hF.same 8 (un 8 (by decide))).trans ha8
      have e10 := (hF.same 10 (un 10 (by decide))).trans ha10
      have e12 := (hF.same 12 (un 12 (by decide))).trans ha12
      have k1 := (gg.cell (p := ⟨g, m, none⟩) hg).trans cL
      have k2 := (gg.cell (p := ⟨rb, 0, none⟩) hr).trans cP
      have k3 := (gg.cell (p := ⟨rb, 1, none⟩) hr).trans cN
      obtain ⟨ρ, hρ⟩ : ∃ ρ, a.eval = ρ := ⟨_, rfl⟩
      rw [hρ] at hd e3 e7 e8 e10 e12
      simp [Region.binds, slotMlsub, cs] at hd
      refine op_val ρ hρ (.int .i64 ((L : Int) + P - z)) ?_ ⟨_, rfl, Old.refl _, rfl⟩
      clear gg hF hρ cL fL cP cN ha3 ha7 ha8 ha10 ha12 HK un
      go_simp
      all_goals (rw [IntKind.wrap_i64]; omega)
    · intro a W gg hF hd
      have e3 := (hF.same 3 (un 3 (by decide))).trans ha3
      have e7 := (hF.same 7 (un 7 (by decide))).trans ha7
      have e8 := (hF.same 8 (un 8 (by decide))).trans ha8
      have e10 := (hF.same 10 (un 10 (by decide))).trans ha10
      have e12 := (hF.same 12 (un 12 (by decide))).trans ha12
      have k1 := (gg.cell (p := ⟨g, m, none⟩) hg).trans cL
      have k2 := (gg.cell (p := ⟨rb, 0, none⟩) hr).trans cP
      have k3 := (gg.cell (p := ⟨rb, 1, none⟩) hr).trans cN
      obtain ⟨ρ, hρ⟩ : ∃ ρ, a.eval = ρ := ⟨_, rfl⟩
      rw [hρ] at hd e3 e7 e8 e10 e12
      simp [Region.binds, slotMlsub, cs] at hd
      refine op_val ρ hρ (.pointer (some ⟨rb, 0, none⟩)) ?_ ⟨_, rfl, Old.refl _, rfl⟩
      clear gg hF hρ cL fL cP cN ha3 ha7 ha8 ha10 ha12 HK un
      go_simp
      all_goals (rw [IntKind.wrap_i64]; omega)
    · intro a W gg hF hd
      have e3 := (hF.same 3 (un 3 (by decide))).trans ha3
      have e7 := (hF.same 7 (un 7 (by decide))).trans ha7
      have e8 := (hF.same 8 (un 8 (by decide))).trans ha8
      have e10 := (hF.same 10 (un 10 (by decide))).trans ha10
      have e12 := (hF.same 12 (un 12 (by decide))).trans ha12
      have k1 := (gg.cell (p := ⟨g, m, none⟩) hg).trans cL
      have k2 := (gg.cell (p := ⟨rb, 0, none⟩) hr).trans cP
      have k3 := (gg.cell (p := ⟨rb, 1, none⟩) hr).trans cN
      obtain ⟨ρ, hρ⟩ : ∃ ρ, a.eval = ρ := ⟨_, rfl⟩
      rw [hρ] at hd e3 e7 e8 e10 e12
      simp [Region.binds, slotMlsub, cs] at hd
      refine op_val ρ hρ (.int .i64 P) ?_ ⟨_, rfl, Old.refl _, rfl⟩
      clear gg hF hρ cL fL cP cN ha3 ha7 ha8 ha10 ha12 HK un
      go_simp
      all_goals (rw [IntKind.wrap_i64]; omega)
    · intro a W gg hF hd
      have e3 := (hF.same 3 (un 3 (by decide))).trans ha3
      have e7 := (hF.same 7 (un 7 (by decide))).trans ha7
      have e8 := (hF.same 8 (un 8 (by decide))).trans ha8
      have e10 := (hF.same 10 (un 10 (by decide))).trans ha10
      have e12 := (hF.same 12 (un 12 (by decide))).trans ha12
      have k1 := (gg.cell (p := ⟨g, m, none⟩) hg).trans cL
      have k2 := (gg.cell (p := ⟨rb, 0, none⟩) hr).trans cP
      have k3 := (gg.cell (p := ⟨rb, 1, none⟩) hr).trans cN
      obtain ⟨ρ, hρ⟩ : ∃ ρ, a.eval = ρ := ⟨_, rfl⟩
      rw [hρ] at hd e3 e7 e8 e10 e12
      simp [Region.binds, slotMlsub, cs] at hd
      refine op_val ρ hρ (.int .i64 Z) ?_ ⟨_, rfl, Old.refl _, rfl⟩
      clear gg hF hρ cL fL cP cN ha3 ha7 ha8 ha10 ha12 HK un
      go_simp
      all_goals (rw [IntKind.wrap_i64]; omega)
    · intro a W gg hF hd
      have e3 := (hF.same 3 (un 3 (by decide))).trans ha3
      have e7 := (hF.same 7 (un 7 (by decide))).trans ha7
      have e8 := (hF.same 8 (un 8 (by decide))).trans ha8
      have e10 := (hF.same 10 (un 10 (by decide))).trans ha10
      have e12 := (hF.same 12 (un 12 (by decide))).trans ha12
      have k1 := (gg.cell (p := ⟨g, m, none⟩) hg).trans cL
      have k2 := (gg.cell (p := ⟨rb, 0, none⟩) hr).trans cP
      have k3 := (gg.cell (p := ⟨rb, 1, none⟩) hr).trans cN
      obtain ⟨ρ, hρ⟩ : ∃ ρ, a.eval = ρ := ⟨_, rfl⟩
      rw [hρ] at hd e3 e7 e8 e10 e12
      simp [Region.binds, slotMlsub, cs] at hd
      refine op_val ρ hρ (.pointer (some ⟨g, m, none⟩)) ?_ ⟨_, rfl, Old.refl _, rfl⟩
      clear gg hF hρ cL fL cP cN ha3 ha7 ha8 ha10 ha12 HK un
      go_simp
      all_goals (rw [IntKind.wrap_i64]; omega)
  · intro a W gg hF hq
    have q1 := hq 24 (by decide)
    have q2 := hq 23 (by decide)
    simp [slotMlsub, cs] at q1 q2
    have k1 := (gg.cell (p := ⟨g, m, none⟩) hg).trans cL
    have k4 : W.frozen? ⟨g, m, none⟩ = false := (World.frozen?_of_block (gg.block g hg)).trans fL
    have hp := fram_put hF (fun i j hi hj => slotMlsub_inj i hi j hj)
    have hk := HK.out (fun i => a.eval (.tmp (slotMlsub i))) W gg
    rw [← hp] at hk
    obtain ⟨ρ, hρ⟩ : ∃ ρ, a.eval = ρ := ⟨_, rfl⟩
    rw [hρ] at q1 q2
    refine op_skp (W' := W.setCell ⟨g, m, none⟩ (.int .i64 Z)) ρ hρ ?_ hk
    clear hk hp hF hq gg hρ cL fL cP cN ha3 ha7 ha8 ha10 ha12 HK un
    go_simp
end Go.Proofs.YtpebikjckhcgfaaDoor
