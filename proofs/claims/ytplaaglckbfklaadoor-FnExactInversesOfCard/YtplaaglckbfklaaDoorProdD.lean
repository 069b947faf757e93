/- Proved: contracts of ProductOf, of the program and of the model. -/
import Derived.Test.YtplaaglckbfklaaDoorProdS
import Derived.Test.YtplaaglckbfklaaDoorKC
namespace Go.Proofs.YtplaaglckbfklaaDoor
open Go.ChangeShapes Go.WideShapes Go.ChangeAt Go.RowKit
open M2
set_option linter.unusedVariables false
set_option linter.unusedSimpArgs false
theorem infoWh : (Tryd.prog.info? 25).map (·.size) = some 2 := by kernel_rfl
/-- a whole number and a bool that are answered -/
theorem ret_wb {fn : Func} {p u : Tmp} (h : fn.results = #[.cell p 25, .tmp u]) (tmps : Array Value) (w : World) {g : Nat} {x y z : Value} (hp : tmps.getD p undef = .pointer (some ⟨g, 0, none⟩)) (hu : tmps.getD u undef = z) (hs : StW w g x y 25) :
    (results fn tmps).run Tryd.prog w = .ok (.tuple #[.agg #[x, y], z]) w := by
  have hld := run_loadVar_row (P := Tryd.prog) w g 25 25 #[x, y] (0, 0) _ hs Tryd.underlying25 rfl infoWh
  rw [results_cell_tmp h, hp, hu]
  simp [asAddr, Result.andThen, hld]
theorem nil_own (w : World) (base : Nat) : Own w base (.slice none 0 0) (toI []) := ⟨rfl, Or.inl ⟨rfl, rfl⟩⟩
theorem st_zero (w : World) (k : Nat) (h : StW w k (.bool false) (.slice none 0 0) 25) : StW ((w.setCell ⟨k, 0, none⟩ (.bool false)).setCell ⟨k, 1, none⟩ (.slice none 0 0)) k (.bool false) (.slice none 0 0) 25 := by
  have h1 := heap_setCell_same w k 0 _ _ (.bool false) h
  have h2 := heap_setCell_same _ k 1 _ _ (.slice none 0 0) h1
  exact h2
/-- what a call that tells a whole number and a bool leaves -/
abbrev Wh (W : World) (rb : Bool) (rl : List Nat) (ok : Bool) (e : Ending) (w' : World) : Prop := ∃ v', e = .returned (.tuple #[.agg #[.bool rb, v'], .bool ok]) ∧ Old W w' ∧ Own w' W.heap.size v' (toI rl)
theorem prodN_pos (ps : List Nat) (h : ∀ p ∈ ps, 2 ≤ p) : ∀ k, k ≤ ps.length → 0 < prodN (ps.take k)
  | 0, _ => by simp [prodN]
  | k + 1, hk => by
    rw [prodN_take ps k (by omega)]
    have h1 := prodN_pos ps h k (by omega)
    have h2 : 2 ≤ ps.getD k 0 := h _ (by simp [List.getD, show k < ps.length by omega])
    exact Nat.mul_pos h1 (by omega)
theorem Bas.pos {ps : List Nat} (h : Bas ps) : prodN ps ≠ 0 := by
  have := prodN_pos ps h.lo ps.length (Nat.le_refl _)
  rw [List.take_length] at this
  omega
theorem Bas.cnt {ps : List Nat} (h : Bas ps) : M2.cnt (prodN ps) ≤ 7 := by
  have := prodN_cnt ps h.hi ps.length (Nat.le_refl _)
  rw [List.take_length] at this
  have := h.len6
  omega
set_option maxRecDepth 100000 in
set_option maxHeartbeats 2000000 in
theorem impl_ProductOf_no (xs : List Int) (v : Value) (w : World) (hP : PrsW w) (hT : TabW w) (hv : Row w v xs) (hf : Fit v) (hl : xs.length ≤ 9223372036854775807) (h : basB xs = false) :
    Calls Tryd.prog 52 #[v] w (Wh w false [] false) := by
  have c := fun W h1 h2 h3 => impl_goodBasis xs v W h1 h2 h3 hf hl
  rw [h] at c
  have HP : Hid (PrsW w) := hP
  have HT : Hid (TabW w) := hT
  have HV : Hid (Row w v xs) := hv
  obtain ⟨a0, c0, rfl⟩ := hv.slice
  have HS : Hid (StW (w.alloc (.cells #[.bool false, .slice none 0 0] 25)) w.heap.size (.bool false) (.slice none 0 0) 25) := StW.new w _ _ _
  have HA : Hid (Old w (w.alloc (.cells #[.bool false, .slice none 0 0] 25))) := (Old.refl w).alloc _
  clear hP hT hv hf h
  go_enter Tryd.func52, Tryd.ntmps52
  go_wp2_with fail
  refine (c _ (HP.out.old HA.out) (HT.out.old HA.out) (HV.out.old HA.out)).mono ?_
  rintro e w1 ⟨rfl, g1⟩
  have S1 : Hid (StW w1 w.heap.size (.bool false) (.slice none 0 0) 25) := HS.out.old g1
  have HG1 : Hid (Old w w1) := Old.trans HA.out g1
  have q0 := S1.out.c0
  have q1 := S1.out.c1
  have f0 := S1.out.f0
  have f1 := S1.out.f1
  clear g1
  go_wp2_with fail
  have MD : Made w false [] ((w1.setCell ⟨w.heap.size, 0, none⟩ (.bool false)).setCell ⟨w.heap.size, 1, none⟩ (.slice none 0 0)) w.heap.size none 0 := two_made (rb := false) (rl := []) (a := none) (cap := 0) (base := w.heap.size + 1) HG1.out (nil_own w1 _) S1.out (by omega) (Nat.le_refl _) (by omega)
  exact bodyPost_ret (ret_wb (x := .bool false) (y := .slice none 0 0) (z := .bool false) Tryd.results52 _ _ rfl rfl MD.st) rfl ⟨.slice none 0 0, rfl, MD.old, MD.own⟩
set_option maxRecDepth 100000 in
set_option maxHeartbeats 2000000 in
theorem impl_ProductOf_yes (ps : List Nat) (v : Value) (w : World) (hP : PrsW w) (hT : TabW w) (hv : Row w v (toZ ps)) (hf : Fit v) (hb : Bas ps) (h : basB (toZ ps) = true) :
    Calls Tryd.prog 52 #[v] w (Wh w false (dig (prodN ps)) true) := by
  have hl6 := hb.len6
  have c := fun W h1 h2 h3 => impl_goodBasis (toZ ps) v W h1 h2 h3 hf (by rw [toZ_len]; omega)
  rw [h] at c
  have c2 := fun W h3 => productSize_sz ps v W h3 hb.len6 hb.hi
  have c3 := fun W => whole_some false (prodN ps) W hb.pos (Nat.le_trans hb.cnt (by omega))
  have HP : Hid (PrsW w) := hP
  have HT : Hid (TabW w) := hT
  have HV : Hid (Row w v (toZ ps)) := hv
  obtain ⟨a0, c0, rfl⟩ : ∃ a c, v = .slice a ps.length c := by have := hv.slice; rwa [toZ_len] at this
  have HS : Hid (StW (w.alloc (.cells #[.bool false, .slice none 0 0] 25)) w.heap.size (.bool false) (.slice none 0 0) 25) := StW.new w _ _ _
  have HA : Hid (Old w (w.alloc (.cells #[.bool false, .slice none 0 0] 25))) := (Old.refl w).alloc _
  clear hP hT hv hf h hb
  generalize prodN ps = r at *
  unfold szV at *
  go_enter Tryd.func52, Tryd.ntmps52
  go_wp2_with fail
  refine (c _ (HP.out.old HA.out) (HT.out.old HA.out) (HV.out.old HA.out)).mono ?_
  rintro e w1 ⟨rfl, g1⟩
  have S1 : Hid (StW w1 w.heap.size (.bool false) (.slice none 0 0) 25) := HS.out.old g1
  have HG1 : Hid (Old w w1) := Old.trans HA.out g1
  clear g1
  go_wp2_with fail
  refine (c2 _ (HV.out.old HG1.out)).mono ?_
  rintro e w2 ⟨rfl, g2⟩
  have S2 : Hid (StW w2 w.heap.size (.bool false) (.slice none 0 0) 25) := S1.out.old g2
  have HG2 : Hid (Old w w2) := Old.trans HG1.out g2
  clear g2
  go_wp2_with fail
  refine (c3 _).mono ?_
  rintro e w3 ⟨v3, rfl, g3, o3⟩
  obtain ⟨a3, cap3, rfl⟩ := (Own.row o3).slice
  have S3 : Hid (StW w3 w.heap.size (.bool false) (.slice none 0 0) 25) := S2.out.old g3
  have HG3 : Hid (Old w w3) := Old.trans HG2.out g3
  have HO3 : Hid (Own w3 w2.heap.size (.slice a3 (toI (dig r)).length cap3) (toI (dig r))) := o3
  have hs2 : w.heap.size < w2.heap.size := S2.out.lt
  have q0 := S3.out.c0
  have q1 := S3.out.c1
  have f0 := S3.out.f0
  have f1 := S3.out.f1
  clear g3 o3
  go_wp2_with fail
  have MD := two_made (rb := false) HG3.out HO3.out S3.out (Nat.le_of_lt hs2) (Nat.le_refl _) hs2
  exact bodyPost_ret (ret_wb Tryd.results52 _ _ rfl rfl MD.st) rfl ⟨_, rfl, MD.old, MD.own⟩
set_option maxRecDepth 100000 in
set_option maxHeartbeats 2000000 in
theorem spec_ProductOf_no (xs : List Int) (v : Value) (w : World) (hv : Row w v xs) (hf : Fit v) (hl : xs.length ≤ 9223372036854775807) (hx : ∀ x ∈ xs, -9223372036854775808 ≤ x ∧ x ≤ 9223372036854775807) (h : basB xs = false) :
    Calls Tryd.prog 51 #[v] w (Wh w false [] false) := by
  have c := fun W h3 => spec_goodBasis xs v W h3 hf hl hx
  rw [h] at c
  have HV : Hid (Row w v xs) := hv
  obtain ⟨a0, c0, rfl⟩ := hv.slice
  have HS : Hid (StW (w.alloc (.cells #[.bool false, .slice none 0 0] 25)) w.heap.size (.bool false) (.slice none 0 0) 25) := StW.new w _ _ _
  have HA : Hid (Old w (w.alloc (.cells #[.bool false, .slice none 0 0] 25))) := (Old.refl w).alloc _
  clear hv hf h hx
  go_enter Tryd.func51, Tryd.ntmps51
  go_wp2_with fail
  refine (c _ (HV.out.old HA.out)).mono ?_
  rintro e w1 ⟨rfl, g1⟩
  have S1 : Hid (StW w1 w.heap.size (.bool false) (.slice none 0 0) 25) := HS.out.old g1
  have HG1 : Hid (Old w w1) := Old.trans HA.out g1
  have q0 := S1.out.c0
  have q1 := S1.out.c1
  have f0 := S1.out.f0
  have f1 := S1.out.f1
  clear g1
  go_wp2_with fail
  have MD : Made w false [] ((w1.setCell ⟨w.heap.size, 0, none⟩ (.bool false)).setCell ⟨w.heap.size, 1, none⟩ (.slice none 0 0)) w.heap.size none 0 := two_made (rb := false) (rl := []) (a := none) (cap := 0) (base := w.heap.size + 1) HG1.out (nil_own w1 _) S1.out (by omega) (Nat.le_refl _) (by omega)
  exact bodyPost_ret (ret_wb (x := .bool false) (y := .slice none 0 0) (z := .bool false) Tryd.results51 _ _ rfl rfl MD.st) rfl ⟨.slice none 0 0, rfl, MD.old, MD.own⟩
set_option maxRecDepth 100000 in
set_option maxHeartbeats 2000000 in
theorem spec_ProductOf_yes (ps : List Nat) (v : Value) (w : World) (hv : Row w v (toZ ps)) (hf : Fit v) (hb : Bas ps) (h : basB (toZ ps) = true) :
    Calls Tryd.prog 51 #[v] w (Wh w false (dig (prodN ps)) true) := by
  have hl6 := hb.len6
  have c := fun W h3 => spec_goodBasis (toZ ps) v W h3 hf (by rw [toZ_len]; omega) (fun x hx => by
    obtain ⟨n, hn, rfl⟩ := List.mem_map.1 hx
    have := hb.hi n hn
    omega)
  rw [h] at c
  have c2 := fun W h3 => spec_product ps v W h3 hb.len6 hb.hi
  have hc7 : (dig (prodN ps)).length ≤ 40 := Nat.le_trans hb.cnt (by omega)
  have c3 := fun u W h4 => out_any false (dig (prodN ps)) u W h4 hc7
  have HV : Hid (Row w v (toZ ps)) := hv
  obtain ⟨a0, c0, rfl⟩ : ∃ a c, v = .slice a ps.length c := by have := hv.slice; rwa [toZ_len] at this
  have HS : Hid (StW (w.alloc (.cells #[.bool false, .slice none 0 0] 25)) w.heap.size (.bool false) (.slice none 0 0) 25) := StW.new w _ _ _
  have HA : Hid (Old w (w.alloc (.cells #[.bool false, .slice none 0 0] 25))) := (Old.refl w).alloc _
  clear hv hf h hb hc7
  generalize prodN ps = r at *
  go_enter Tryd.func51, Tryd.ntmps51
  go_wp2_with fail
  refine (c _ (HV.out.old HA.out)).mono ?_
  rintro e w1 ⟨rfl, g1⟩
  have S1 : Hid (StW w1 w.heap.size (.bool false) (.slice none 0 0) 25) := HS.out.old g1
  have HG1 : Hid (Old w w1) := Old.trans HA.out g1
  clear g1
  go_wp2_with fail
  refine (c2 _ (HV.out.old HG1.out)).mono ?_
  rintro e w2 ⟨v2, rfl, g2, o2⟩
  obtain ⟨a2, cap2, rfl⟩ := o2.slice
  have S2 : Hid (StW w2 w.heap.size (.bool false) (.slice none 0 0) 25) := S1.out.old g2
  have HG2 : Hid (Old w w2) := Old.trans HG1.out g2
  have HR2 : Hid (Row w2 (.slice a2 (toI (dig r)).length cap2) (toI (dig r))) := o2
  clear g2 o2
  go_wp2_with fail
  refine (c3 _ _ HR2.out).mono ?_
  rintro e w3 ⟨v3, rfl, g3, o3⟩
  obtain ⟨a3, cap3, rfl⟩ := (Own.row o3).slice
  have S3 : Hid (StW w3 w.heap.size (.bool false) (.slice none 0 0) 25) := S2.out.old g3
  have HG3 : Hid (Old w w3) := Old.trans HG2.out g3
  have HO3 : Hid (Own w3 w2.heap.size (.slice a3 (toI (dig r)).length cap3) (toI (dig r))) := o3
  have hs2 : w.heap.size < w2.heap.size := S2.out.lt
  have q0 := S3.out.c0
  have q1 := S3.out.c1
  have f0 := S3.out.f0
  have f1 := S3.out.f1
  clear g3 o3
  go_wp2_with fail
  have MD := two_made (rb := false) HG3.out HO3.out S3.out (Nat.le_of_lt hs2) (Nat.le_refl _) hs2
  exact bodyPost_ret (ret_wb Tryd.results51 _ _ rfl rfl MD.st) rfl ⟨_, rfl, MD.old, MD.own⟩
end Go.Proofs.YtplaaglckbfklaaDoor
