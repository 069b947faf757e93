/- Proved: the model's inverse transform: the sum over the points, times the inverse of N. -/
import Derived.Test.YtakleianimcmdaaGreatDoorM23
import Derived.Test.YtakleianimcmdaaGreatDoorM07
import Derived.Deep.RegionHeld3
namespace Go.Proofs.YtakleianimcmdaaGreatDoor
open Go.ChangeShapes Go.WideShapes Go.ChangeAt Go.RowKit
open M1
set_option linter.unusedVariables false
set_option linter.unusedSimpArgs false
def invS (P B : Nat) (ps xs : List Nat) (i : Nat) : Nat → Nat
  | 0 => 0
  | c + 1 => (invS P B ps xs i c + xs.getD c 0 * (B ^ (ps.getD c 0 * i) % P)) % P
theorem invS_lt (P B : Nat) (ps xs : List Nat) (i : Nat) (hP : 0 < P) : ∀ c, invS P B ps xs i c < P
  | 0 => hP
  | c + 1 => Nat.mod_lt _ hP
def invL (P N R : Nat) (xs : List Nat) : List Nat := (List.range N).map (fun i => invS P (invM R P) (ptsN N) xs i N * invM (N % P) P % P)
theorem invL_len (P N R : Nat) (xs : List Nat) : (invL P N R xs).length = N := by simp [invL]
theorem invL_get (P N R : Nat) (xs : List Nat) (k : Nat) (h : k < N) : (invL P N R xs).getD k 0 = invS P (invM R P) (ptsN N) xs k N * invM (N % P) P % P := by simp [invL, List.getD, h]
end Go.Proofs.YtakleianimcmdaaGreatDoor
