/- Proved: several texts in one: what each proves is said ahead of it. -/
import Derived.Test.YtpebikjckhcgfaaDoorZ04
import Derived.KernelRfl
/- Proved: the contract of the program's product in a ring, out of those of its transforms: its drawn region by what each operation is worth. -/
namespace Go.Proofs.YtpebikjckhcgfaaDoor
open Go.ChangeShapes Go.WideShapes Go.ChangeAt Go.RowKit
set_option linter.unusedVariables false
set_option linter.unusedSimpArgs false
def regionAtprod (n : Nat) : Code → Option Code
  | .region i ops b => if i = n then some (.region i ops b) else none
  | .seq a b => match regionAtprod n a with
    | some c => some c
    | none => regionAtprod n b
  | .block _ c => regionAtprod n c
  | _ => none
def slotP (i : Nat) : Nat := [7, 8, 9, 10, 11, 12, 13, 14, 15, 16, 6].getD i 0
theorem slotP_lt : ∀ i, i < 11 → slotP i < 17 := by decide
theorem slotP_inj : ∀ i, i < 11 → ∀ j, j < 11 → slotP i = slotP j → i = j := by decide
/-- what each operation leaves in its slot -/
def prodQ (A : Array Value) (v u : Value) (FA FB PR RES : List Int) (base : Nat) (i : Nat) (W : World) (x : Value) : Prop :=
  match i with
  | 0 => x = .agg A
  | 1 => x = .agg A
  | 2 => x = .agg A
  | 3 => x = v
  | 4 => Row W x FA
  | 5 => x = .agg A
  | 6 => x = u
  | 7 => Row W x FB
  | 8 => Row W x PR
  | 9 => Own W base x RES
  | 10 => Own W base x RES
  | _ => True
theorem prodQ_old (A : Array Value) (v u : Value) (FA FB PR RES : List Int) (base : Nat) (i : Nat) (W W' : World) (x : Value) (h : prodQ A v u FA FB PR RES base i W x) (g : Old W W') : prodQ A v u FA FB PR RES base i W' x := by
  unfold prodQ at h ⊢
  split at h
  all_goals first | exact h | exact h.old g | trivial
set_option maxRecDepth 100000 in
set_option maxHeartbeats 4000000 in
theorem reg_prod (w1 : World) (k : Nat) (A : Array Value) (v u : Value) (FA FB PR RES : List Int) (b0 : w1.heap[k]? = some (.cells A 30 (0, 0))) (hA : A.size = 3)
    (KF1 : ∀ W, Old w1 W → Calls Tryd.prog 70 #[.agg A, v] W fun e w' => ∃ v', e = .returned v' ∧ Old W w' ∧ Own w' W.heap.size v' FA)
    (KF2 : ∀ W, Old w1 W → Calls Tryd.prog 70 #[.agg A, u] W fun e w' => ∃ v', e = .returned v' ∧ Old W w' ∧ Own w' W.heap.size v' FB)
    (KP : ∀ W x y, Old w1 W → Row W x FA → Row W y FB → Calls Tryd.prog 143 #[.agg A, x, y] W fun e w' => ∃ v', e = .returned v' ∧ Old W w' ∧ Own w' W.heap.size v' PR)
    (KI : ∀ W x, Old w1 W → Row W x PR → Calls Tryd.prog 65 #[.agg A, x] W fun e w' => ∃ v', e = .returned v' ∧ Old W w' ∧ Own w' W.heap.size v' RES)
    (Q : Exit → Act → World → Prop) (K : Act → World → Prop) (a0 : Act) (hsz : a0.tmps.size = 17) (ha3 : a0.eval (.tmp 3) = .pointer (some ⟨k, 0, none⟩)) (ha1 : a0.eval (.tmp 1) = v) (ha2 : a0.eval (.tmp 2) = u)
    (HK : Hid (∀ a W, Old w1 W → Fram 11 slotP a0 a → Own W w1.heap.size (a.eval (.tmp 6)) RES → K a W)) :
    Code.wp Tryd.prog ((Tryd.f144.body.bind (regionAtprod 1)).getD .skip) (Exit.then K Q) a0 w1 := by
  conv => arg 2; whnf
  have un : ∀ s, s < 6 → ∀ i, i < 11 → slotP i ≠ s := by decide
  have key : ∀ s, s < 6 → ∀ a, Fram 11 slotP a0 a → a.eval (.tmp s) = a0.eval (.tmp s) := fun s hs a hF => hF.same s (un s hs)
  refine wp_region_old (by kernel_rfl) (by kernel_rfl) (by kernel_rfl) slotP ?_ ?_ (prodQ A v u FA FB PR RES w1.heap.size) (prodQ_old A v u FA FB PR RES w1.heap.size) ?_ ?_
  · intro i hi
    rw [hsz]
    exact slotP_lt i hi
  · intro i j hi hj
    exact slotP_inj i hi j hj
  · have ring : ∀ W, Old w1 W → W.heap[k]? = some (.cells A 30 (0, 0)) := fun W g => (g.block k (lt_of_some b0)).trans b0
    have hinfo : (Tryd.prog.info? 30).map (·.size) = some A.size := by rw [hA]; kernel_rfl
    refine ⟨?_, ?_, ?_, ?_, ?_, ?_, ?_, ?_, ?_, ?_, ?_, trivial⟩
    · intro a W g hF hd
      refine op_load (k := k) ((key 3 (by decide) a hF).trans ha3) (ring W g) Tryd.underlying30 rfl hinfo ?_
      exact ⟨_, rfl, Old.refl _, rfl⟩
    · intro a W g hF hd
      refine op_load (k := k) ((key 3 (by decide) a hF).trans ha3) (ring W g) Tryd.underlying30 rfl hinfo ?_
      exact ⟨_, rfl, Old.refl _, rfl⟩
    · intro a W g hF hd
      refine op_load (k := k) ((key 3 (by decide) a hF).trans ha3) (ring W g) Tryd.underlying30 rfl hinfo ?_
      exact ⟨_, rfl, Old.refl _, rfl⟩
    · intro a W g hF hd
      refine op_move ?_
      exact ⟨_, rfl, Old.refl _, (key 1 (by decide) a hF).trans ha1⟩
    · intro a W g hF hd
      have h2 : a.eval (.tmp 9) = .agg A := hd ⟨2, .data⟩ (by simp) rfl
      have h3 : a.eval (.tmp 10) = v := hd ⟨3, .data⟩ (by simp) rfl
      refine op_call_ret Tryd.call70 (vs := #[.agg A, v]) (by simp [h2, h3]) (KF1 W g) ?_
      rintro x w' ⟨g', o'⟩
      exact ⟨_, rfl, g', Own.row o'⟩
    · intro a W g hF hd
      refine op_load (k := k) ((key 3 (by decide) a hF).trans ha3) (ring W g) Tryd.underlying30 rfl hinfo ?_
      exact ⟨_, rfl, Old.refl _, rfl⟩
    · intro a W g hF hd
      refine op_move ?_
      exact ⟨_, rfl, Old.refl _, (key 2 (by decide) a hF).trans ha2⟩
    · intro a W g hF hd
      have h2 : a.eval (.tmp 12) = .agg A := hd ⟨5, .data⟩ (by simp) rfl
      have h3 : a.eval (.tmp 13) = u := hd ⟨6, .data⟩ (by simp) rfl
      refine op_call_ret Tryd.call70 (vs := #[.agg A, u]) (by simp [h2, h3]) (KF2 W g) ?_
      rintro x w' ⟨g', o'⟩
      exact ⟨_, rfl, g', Own.row o'⟩
    · intro a W g hF hd
      have h1 : a.eval (.tmp 8) = .agg A := hd ⟨1, .data⟩ (by simp) rfl
      have h2 : Row W (a.eval (.tmp 11)) FA := hd ⟨4, .data⟩ (by simp) rfl
      have h3 : Row W (a.eval (.tmp 14)) FB := hd ⟨7, .data⟩ (by simp) rfl
      refine op_call_ret Tryd.call143 (vs := #[.agg A, a.eval (.tmp 11), a.eval (.tmp 14)]) (by simp [h1]) (KP W _ _ g h2 h3) ?_
      rintro x w' ⟨g', o'⟩
      exact ⟨_, rfl, g', Own.row o'⟩
    · intro a W g hF hd
      have h1 : a.eval (.tmp 7) = .agg A := hd ⟨0, .data⟩ (by simp) rfl
      have h2 : Row W (a.eval (.tmp 15)) PR := hd ⟨8, .data⟩ (by simp) rfl
      refine op_call_ret Tryd.call65 (vs := #[.agg A, a.eval (.tmp 15)]) (by simp [h1]) (KI W _ g h2) ?_
      rintro x w' ⟨g', o'⟩
      exact ⟨_, rfl, g', o'.low g.size⟩
    · intro a W g hF hd
      refine op_assign ?_
      have h1 : Own W w1.heap.size (a.eval (.tmp 16)) RES := hd ⟨9, .data⟩ (by simp) rfl
      exact ⟨_, rfl, Old.refl _, h1⟩
  · intro a W g hF hq
    exact HK.out a W g hF (hq 10 (by decide))
end Go.Proofs.YtpebikjckhcgfaaDoor
