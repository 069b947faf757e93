/- Proved: a part of a row, cut out of it. -/
import Derived.Test.YtfgooclnohnkmaaGreatDoorKE
namespace Go.Proofs.YtfgooclnohnkmaaGreatDoor
open Go.ChangeShapes Go.WideShapes Go.ChangeAt Go.RowKit
set_option linter.unusedVariables false
set_option linter.unusedSimpArgs false
theorem impl_partOf (g N part parts size : Nat) (w : World) (hN : 2 ≤ N ∧ N ≤ 16) (hp : N = parts * size) (h1 : 1 ≤ parts) (h2 : 1 ≤ size) (hlt : part < parts) :
    Calls Tryz.prog 212 #[.slice (some ⟨g, 0, none⟩) N N, .int .i64 part, .int .i64 parts] w fun e w' => e = .returned (.slice (some ⟨g, part * size, none⟩) size (N - part * size)) ∧ w' = w := by
  have hd : N / parts = size := by rw [hp]; exact Nat.mul_div_cancel_left _ (by omega)
  have e0 : (N : Int) / (parts : Int) = (size : Int) := by rw [← hd]; simp
  have hle : (part + 1) * size ≤ N := by rw [hp]; exact Nat.mul_le_mul_right _ (by omega)
  have e1 : (part : Int) * (size : Int) = ((part * size : Nat) : Int) := by simp
  have e2 : ((part : Int) + 1) * (size : Int) = (((part + 1) * size : Nat) : Int) := by simp
  have e3 : (part + 1) * size = part * size + size := by rw [Nat.add_mul, Nat.one_mul]
  have hpt : part ≤ 16 := by
    have := Nat.mul_le_mul_right size hlt
    have : parts ≤ parts * size := Nat.le_mul_of_pos_right _ (by omega)
    omega
  have hpp : parts ≤ 16 := by
    have : parts ≤ parts * size := Nat.le_mul_of_pos_right _ (by omega)
    omega
  have hsz : size ≤ 16 := by
    have : size ≤ parts * size := Nat.le_mul_of_pos_left _ (by omega)
    omega
  rw [e3] at e2 hle
  generalize part * size = lo at *
  obtain ⟨hi, hhi⟩ : ∃ hi, hi = lo + size := ⟨_, rfl⟩
  rw [← hhi] at e2 hle
  have es : hi - lo = size := by omega
  have hlh : lo ≤ hi := by omega
  have hlh2 : lo < hi := by omega
  have hle' : (lo : Int) ≤ (hi : Int) := by omega
  have hle2 : (hi : Int) ≤ (N : Int) := by omega
  have hpn : ¬ (parts : Int) = 0 := by omega
  have hpn2 : ¬ parts = 0 := by omega
  rw [← es]
  clear hp hd e3 hhi es
  go_enter Tryz.func212, Tryz.ntmps212
  go_wp2_with fail
  all_goals
    go_ret
    first
      | (exfalso; omega)
      | exact ⟨rfl, rfl⟩
end Go.Proofs.YtfgooclnohnkmaaGreatDoor
