/- Proved: the statement on PuncturedOf at every list, in a world in which the two tables are laid. -/
import Derived.Test.YtfgooclnohnkmaaDoorLawPuncturedOf
import Derived.Test.YtfgooclnohnkmaaDoorNC
import Derived.Test.YtfgooclnohnkmaaDoorNG
import Derived.Test.YtfgooclnohnkmaaDoorNL
namespace Go.Proofs.YtfgooclnohnkmaaDoor
open Go.ChangeShapes Go.WideShapes Go.ChangeAt Go.RowKit
set_option linter.unusedVariables false
set_option linter.unusedSimpArgs false
theorem PuncturedOf_go (xs : List Int) (v : Value) (w : World) (hv : Row w v xs) (bs : List Bool) (zss : List (List Int)) (ok : Bool) (hb : bs.length = zss.length) (hz : zss.length ≤ 6) (hr : ∀ r ∈ zss, r.length ≤ 7)
    (cs : ∀ W v', Row W v' xs → Fit v' → Calls Tryd.prog 19 #[v'] W (Ws W bs zss ok)) (ci : ∀ W v', Old w W → Row W v' xs → Fit v' → Calls Tryd.prog 21 #[v'] W (Ws W bs zss ok)) :
    Calls Tryd.prog 4 #[v] w fun e w' => e = .returned (.bool true) ∧ Old w w' := by
  obtain ⟨a0, c0, rfl⟩ := hv.slice
  have ho := offW_row hr
  have ho2 : offW zss zss.length ≤ 48 := by omega
  have hr2 : ∀ r ∈ zss, r.length ≤ 1048576 := fun r h => by have := hr r h; omega
  refine law9_PuncturedOf w xs.length a0 c0 zss.length ok 0
    (XI xs) (far_XI xs) shape_XI (fun h0 W g => ki_to xs _ W (hv.old g) (by omega)) (fun h0 W lo hi g lo' hi' g' k k' => ki_eq xs W lo hi g lo' hi' g' k k' (by omega))
    (1 + xs.length) (by omega) (fun h0 W lo hi g k => ki_mark xs 1 W lo hi g k (by omega) (by omega) (by omega))
    (YW bs zss) (far_YW _ _) shape_YW (YW bs zss) (far_YW _ _) shape_YW (YWm 1 zss) (far_YWm _ _) shape_YWm
    (fun h0 W lo hi g k _ => ?_) (fun h0 W lo hi g k q => ?_)
    (fun h0 W lo hi p lo' hi' p' k k' => yw_eq bs zss hb W lo hi p lo' hi' p' k k' (by omega) hr2)
    (1 + offW zss zss.length) (by omega) (fun h0 W lo hi p k => yw_mark bs zss 1 W lo hi p k (by omega) hr2 (by omega) (by omega))
    (fun h0 W lo hi p k => yw_held zss 1 W lo hi p k (by omega) hr2 (by omega) (by omega))
  · obtain ⟨a, c, rfl, o, f⟩ := k
    exact (cs W _ o.row f).mono fun e w' ⟨v', h1, h2, h3⟩ => ⟨v', h1, h2, h3⟩
  · obtain ⟨a, c, rfl, o, f⟩ := k
    exact (ci W _ q o.row f).mono fun e w' ⟨v', h1, h2, h3⟩ => ⟨v', h1, h2, h3⟩
theorem PuncturedOf_any (xs : List Int) (v : Value) (w : World) (hv : Row w v xs) (hl : xs.length ≤ 9223372036854775807) (hx : ∀ x ∈ xs, -9223372036854775808 ≤ x ∧ x ≤ 9223372036854775807) (hP : PrsW w) (hT : TabW w) :
    Calls Tryd.prog 4 #[v] w fun e w' => e = .returned (.bool true) ∧ Old w w' := by
  cases h : basB xs
  · exact PuncturedOf_go xs v w hv [] [] false rfl (by simp) (by simp)
      (fun W v' hr hf => spec_PuncturedOf_no xs v' W hr hf hl hx h) (fun W v' g hr hf => impl_PuncturedOf_no xs v' W (hP.old g) (hT.old g) hr hf hl h)
  · obtain ⟨ps, rfl, hb⟩ := basB_yes h
    exact PuncturedOf_go (toZ ps) v w hv (punB ps) (punX ps) true (by rw [punB_len, punX_len]) (by rw [punX_len]; exact hb.len6) (punX_row hb)
      (fun W v' hr hf => spec_PuncturedOf_yes ps v' W hr hf hb h) (fun W v' g hr hf => impl_PuncturedOf_yes ps v' W (hP.old g) (hT.old g) hr hf hb h)
end Go.Proofs.YtfgooclnohnkmaaDoor
