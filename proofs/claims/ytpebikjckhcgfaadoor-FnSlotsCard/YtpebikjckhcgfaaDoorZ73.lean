/- Proved: several texts in one: what each proves is said ahead of it. -/
import Derived.Test.YtpebikjckhcgfaaDoorZ72
import Derived.Deep.RegionHeld3
/- Proved: contracts of the program's point with its place, and of things laid out in two rows. -/
namespace Go.Proofs.YtpebikjckhcgfaaDoor
open Go.ChangeShapes Go.WideShapes Go.ChangeAt Go.RowKit
set_option linter.unusedVariables false
set_option linter.unusedSimpArgs false
set_option maxRecDepth 100000 in
set_option maxHeartbeats 1000000 in
theorem pointWith_any (N e b : Nat) (w : World) (h : Sz4 N) (he : e < 2 * N) (hT : TabW w) (hc : w.cell? ⟨b, 0, none⟩ = some (.int .i64 N)) :
    Calls Tryd.prog 119 #[.int .i64 e, .pointer (some ⟨b, 0, none⟩)] w fun en w' => en = .returned (.agg #[.int .i64 e, .int .i64 (backN (lg N) (e / 2) 0)]) ∧ Old w w' := by
  have hb : b < w.heap.size := block_lt_of_cell hc
  have HA : Hid (Old w (w.alloc (.cells #[.int .i64 0, .int .i64 0] 91))) := (Old.refl w).alloc _
  have q0 : (w.alloc (.cells #[.int .i64 0, .int .i64 0] 91)).cell? ⟨b, 0, none⟩ = some (.int .i64 N) := (HA.out.cell (p := ⟨b, 0, none⟩) hb).trans hc
  have c := fun W (hT : TabW W) => impl_place N e W h he hT
  have HT : Hid (TabW w) := hT
  generalize backN (lg N) (e / 2) 0 = x at *
  clear hT h hc
  go_enter Tryd.func119, Tryd.ntmps119
  go_wp2_with fail
  refine (c _ (HT.out.old HA.out)).mono ?_
  rintro en w1 ⟨rfl, hw⟩
  obtain rfl := hw.symm
  go_wp2_with fail
  exact bodyPost_ret (v := .agg #[.int .i64 e, .int .i64 x]) (by simp [results, Tryd.results119, go_sem]) rfl ⟨rfl, by repeat (first | exact Old.refl _ | apply Old.alloc | apply Old.drewN | (refine Old.own ?_ (Nat.le_refl _) _))⟩
set_option maxRecDepth 100000 in
set_option maxHeartbeats 1000000 in
theorem inRows_pt (H g n : Nat) (w : World) (hn : n = 2 * H) (hH : 1 ≤ H ∧ H ≤ 8) :
    Calls Tryd.prog 121 #[.slice (some ⟨g, 0, none⟩) n n] w fun en w' => en = .returned (.agg #[.slice (some ⟨g, 0, none⟩) H n, .slice (some ⟨g, H * 2, none⟩) H H]) ∧ Old w w' := by
  have eh : (n : Int) / 2 = (H : Int) := by omega
  have hle : H ≤ n := by omega
  have hne : ¬ n = H := by omega
  have e2 : n - H = H := by omega
  have hi1 : (H : Int) ≤ (n : Int) := by omega
  clear hn
  go_enter Tryd.func121, Tryd.ntmps121
  go_wp2_with fail
  refine wp_region_noPanic ?_
  go_region_with fail
  all_goals
    refine NoPanic.normal ?_
    go_wp2_with fail
    exact bodyPost_ret (v := .agg #[.slice (some ⟨g, 0, none⟩) H n, .slice (some ⟨g, H * 2, none⟩) H H]) (by simp [results, Tryd.results121, go_sem, e2]) rfl ⟨rfl, by repeat (first | exact Old.refl _ | apply Old.alloc | apply Below.drew | (refine Old.own ?_ (Nat.le_refl _) _))⟩
end Go.Proofs.YtpebikjckhcgfaaDoor
