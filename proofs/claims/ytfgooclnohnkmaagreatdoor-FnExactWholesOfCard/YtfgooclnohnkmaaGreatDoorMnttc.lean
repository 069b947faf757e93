/- Proved: the list that the program's steps make is the model's list of values, where the root's N-th power is -1. -/
import Derived.Test.YtfgooclnohnkmaaGreatDoorMnttb
namespace Go.Proofs.YtfgooclnohnkmaaGreatDoor
set_option linter.unusedVariables false
set_option linter.unusedSimpArgs false
theorem all_steps (P N R : Nat) (xs : List Nat) (hS : Sz4 N) (hl : xs.length = N) (hP : 0 < P) (hlt : ∀ x ∈ xs, x < P) (r1 : Cg P ((R : Int) ^ (2 * N)) 1) (r2 : Cg P ((R : Int) ^ N) (-1)) (k : Nat) (hk : k < N) (X : Int) (hX : Cg P X ((R : Int) ^ (2 * backN (lg N) k 0 + 1))) :
    ∀ s, s ≤ lg N → Cg P (evI (fun i => (((fsS P N R xs s).getD (k / (N / 2 ^ s) * (N / 2 ^ s) + i) 0 : Nat) : Int)) X (N / 2 ^ s)) (evI (fun i => ((xs.getD i 0 : Nat) : Int)) X N)
  | 0, _ => by
    rw [Nat.pow_zero, Nat.div_one, Nat.div_eq_of_lt hk]
    have e : (fun i => (((fsS P N R xs 0).getD (0 * N + i) 0 : Nat) : Int)) = (fun i => ((xs.getD i 0 : Nat) : Int)) := by
      funext i
      rw [Nat.zero_mul, Nat.zero_add]
      rfl
    rw [e]
    exact Cg.refl _ _
  | s + 1, hs => by
    have ih := all_steps P N R xs hS hl hP hlt r1 r2 k hk X hX s (by omega)
    obtain ⟨hh, h1, h2, h3, h4⟩ := halves hS s (by omega)
    rw [h1] at ih
    rw [h4]
    exact step_ev P N R s hh (fsS P N R xs s) hS (by omega) (by rw [fsS_len, hl]) hP (fsS_lt P N R xs hP hlt s) h1 h2 h3 r1 r2 k hk X _ hX ih
theorem list_eq {a b : List Nat} (hl : a.length = b.length) (h : ∀ k, k < b.length → a.getD k 0 = b.getD k 0) : a = b := by
  refine List.ext_getElem hl (fun k h1 h2 => ?_)
  have := h k h2
  simpa [List.getD, h1, h2] using this
theorem fwd_same (P N R : Nat) (xs : List Nat) (hS : Sz4 N) (hl : xs.length = N) (hP : 0 < P) (hlt : ∀ x ∈ xs, x < P) (r1 : Cg P ((R : Int) ^ (2 * N)) 1) (r2 : Cg P ((R : Int) ^ N) (-1)) : fsS P N R xs (lg N) = fwdS P N R xs := by
  refine list_eq (by rw [fsS_len, fwdS_len, hl]) (fun k hk => ?_)
  rw [fwdS_len] at hk
  rw [fwdS_get P N R xs k hk, ptsN_get N k hk]
  have hX : Cg P ((R ^ (2 * backN (lg N) k 0 + 1) % P : Nat) : Int) ((R : Int) ^ (2 * backN (lg N) k 0 + 1)) := by
    have := Cg.mod P (R ^ (2 * backN (lg N) k 0 + 1))
    push_cast at this ⊢
    exact this
  have h1 := all_steps P N R xs hS hl hP hlt r1 r2 k hk _ hX (lg N) (Nat.le_refl _)
  have hp := (lg_pow hS).1
  rw [hp, Nat.div_self (by have := sz_bd hS; omega)] at h1
  have h2 := hor_ev P (R ^ (2 * backN (lg N) k 0 + 1) % P) xs N N (Nat.le_refl _)
  have e2 : (fun i => ((xs.getD (N - N + i) 0 : Nat) : Int)) = (fun i => ((xs.getD i 0 : Nat) : Int)) := by
    funext i
    rw [Nat.sub_self, Nat.zero_add]
  rw [e2] at h2
  have e1 : evI (fun i => (((fsS P N R xs (lg N)).getD (k / 1 * 1 + i) 0 : Nat) : Int)) ((R ^ (2 * backN (lg N) k 0 + 1) % P : Nat) : Int) 1 = (((fsS P N R xs (lg N)).getD k 0 : Nat) : Int) := by
    simp [evI]
  rw [e1] at h1
  exact Cg.eq_of_lt (h1.trans h2.symm) (getD_lt (fsS_lt P N R xs hP hlt _) hP k) (horS_lt P _ xs N hP N)
/-- a root of 1 gives both powers -/
theorem Rt.cg {P N R : Nat} (h : Rt P (2 * N) R) (hP : 2 ≤ P) : Cg P ((R : Int) ^ (2 * N)) 1 ∧ Cg P ((R : Int) ^ N) (-1) := by
  have h1 := (Cg.mod P (R ^ (2 * N))).symm
  have h2 := (Cg.mod P (R ^ N)).symm
  rw [h.one] at h1
  have hn := h.neg
  rw [show 2 * N / 2 = N by omega] at hn
  rw [hn] at h2
  push_cast at h1 h2
  refine ⟨h1, h2.trans ⟨1, by omega⟩⟩
end Go.Proofs.YtfgooclnohnkmaaGreatDoor
