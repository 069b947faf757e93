/- Proved: several texts in one: what each proves is said ahead of it. -/
import Derived.Test.YtpebikjckhcgfaaDoorZ16
import Derived.Test.YtpebikjckhcgfaaDoorZ25
import Derived.Test.YtpebikjckhcgfaaDoorZ26
import Derived.Deep.RegionHeld3
/- Proved: the program's eachPair. -/
namespace Go.Proofs.YtpebikjckhcgfaaDoor
open Go.ChangeShapes Go.WideShapes Go.ChangeAt Go.RowKit
open M1
set_option linter.unusedVariables false
set_option linter.unusedSimpArgs false
end Go.Proofs.YtpebikjckhcgfaaDoor
/- Proved: the program's eachRow. -/
namespace Go.Proofs.YtpebikjckhcgfaaDoor
open Go.ChangeShapes Go.WideShapes Go.ChangeAt Go.RowKit
open M1
set_option linter.unusedVariables false
set_option linter.unusedSimpArgs false
set_option maxRecDepth 100000 in
set_option maxHeartbeats 4000000 in
theorem eachRow_ahead_no (N : Int) (ps : List Int) (a ah : Bool) (xss : List (List Int)) (Rf : Nat → Int) (us1 : Nat → Option Addr) (v : Value) (a1 : Option Addr) (cap1 : Nat) (w : World) (hP : PrsW w) (hT : TabW w) (hv : Row w v ps)
    (c1 : ∀ W, PrsW W → TabW W → Old w W → Calls Tryd.prog 140 #[.agg #[.int .i64 N, v], .agg #[.bool a, .slice a1 xss.length cap1]] W fun e w' => Old W w' ∧ ((grB N ps xss = false ∧ e = .returned (.tuple #[.slice none 0 0, .bool false])) ∨ (grB N ps xss = true ∧ ∃ g, W.heap.size ≤ g ∧ e = .returned (.tuple #[.slice (some ⟨g, 0, none⟩) ps.length ps.length, .bool true]) ∧ RRs w' g N a ps Rf us1 ps.length))) (hno : grB N ps xss = false) :
    Calls Tryd.prog 106 #[.agg #[.int .i64 N, v], .agg #[.bool a, .slice a1 xss.length cap1], .bool ah, .func (.func 111) #[] #[]] w (Rs w false [] false) := by
  have HP : Hid (PrsW w) := hP
  have HT : Hid (TabW w) := hT
  obtain ⟨a0, cap0, ev⟩ := hv.slice
  subst ev
  have HA : Hid (Old w (((w.alloc (.cells #[.int .i64 N, .slice a0 ps.length cap0] 56)).alloc (.cells #[.bool a, .slice a1 xss.length cap1] 53)).alloc (.cells #[.bool false, .slice none 0 0] 53))) := (((Old.refl w).alloc _).alloc _).alloc _
  have HS : Hid (StW (((w.alloc (.cells #[.int .i64 N, .slice a0 ps.length cap0] 56)).alloc (.cells #[.bool a, .slice a1 xss.length cap1] 53)).alloc (.cells #[.bool false, .slice none 0 0] 53)) (w.heap.size + 1 + 1) (.bool false) (.slice none 0 0) 53) := by
    have := StW.new ((w.alloc (.cells #[.int .i64 N, .slice a0 ps.length cap0] 56)).alloc (.cells #[.bool a, .slice a1 xss.length cap1] 53)) (.bool false) (.slice none 0 0) 53
    simp at this
    exact this
  clear hv hP hT
  go_enter Tryd.func106, Tryd.ntmps106
  go_wp2_with fail
  refine (c1 _ (HP.out.old HA.out) (HT.out.old HA.out) HA.out).mono ?_
  rintro e w2 ⟨g1, hl⟩
  have HG2 : Hid (Old w w2) := Old.trans HA.out g1
  have S2 : Hid (StW w2 (w.heap.size + 1 + 1) (.bool false) (.slice none 0 0) 53) := HS.out.old g1
  have hs2 : w.heap.size + 1 + 1 < w2.heap.size := S2.out.lt
  clear g1
  rcases hl with ⟨hB, rfl⟩ | ⟨hB, g, hg, rfl, hrr⟩
  · have q0 := S2.out.c0
    have q1 := S2.out.c1
    have f0 := S2.out.f0
    have f1 := S2.out.f1
    clear hB hno
    go_wp2_with fail
    refine bodyPost_ret (ret_rb (x := .bool false) (y := .slice none 0 0) (z := .bool false) Tryd.results106 _ _ rfl rfl (st_put2 S2.out _ _)) rfl ⟨_, rfl, ?_, XR.nil _ _ _ _ (Nat.le_refl _)⟩
    exact (HG2.out.own (p := ⟨w.heap.size + 1 + 1, 0, none⟩) (by simp; omega) _).own (p := ⟨w.heap.size + 1 + 1, 1, none⟩) (by simp; omega) _
  · rw [hno] at hB
    cases hB
set_option maxRecDepth 100000 in
set_option maxHeartbeats 8000000 in
theorem eachRow_ahead_yes (Nn : Nat) (ps : List Int) (a ah : Bool) (xss : List (List Int)) (Rf : Nat → Int) (us1 : Nat → Option Addr) (v : Value) (a1 : Option Addr) (cap1 : Nat) (w : World) (hP : PrsW w) (hT : TabW w) (hv : Row w v ps)
    (c1 : ∀ W, PrsW W → TabW W → Old w W → Calls Tryd.prog 140 #[.agg #[.int .i64 Nn, v], .agg #[.bool a, .slice a1 xss.length cap1]] W fun e w' => Old W w' ∧ ((grB Nn ps xss = false ∧ e = .returned (.tuple #[.slice none 0 0, .bool false])) ∨ (grB Nn ps xss = true ∧ ∃ g, W.heap.size ≤ g ∧ e = .returned (.tuple #[.slice (some ⟨g, 0, none⟩) ps.length ps.length, .bool true]) ∧ RRs w' g Nn a ps Rf us1 ps.length))) (hx : grB Nn ps xss = true) (zss : List (List Int)) (hzl : zss.length = ps.length) (hps : ps.length ≤ 6)
    (cj : ∀ k, k < ps.length → (zss.getD k []).length = Nn ∧ ∀ W, Old w W → Calls Tryd.prog 111 #[.agg #[.int .i64 (ps.getD k 0), .int .i64 Nn, .int .i64 (Rf k), .bool a, .slice (us1 k) Nn Nn]] W fun e w' => ∃ g cp, e = .returned (.slice (some ⟨g, 0, none⟩) Nn cp) ∧ Nn ≤ cp ∧ Old W w' ∧ Own w' W.heap.size (.slice (some ⟨g, 0, none⟩) Nn cp) (zss.getD k [])) :
    Calls Tryd.prog 106 #[.agg #[.int .i64 Nn, v], .agg #[.bool a, .slice a1 xss.length cap1], .bool ah, .func (.func 111) #[] #[]] w (Rs w ah zss true) := by
  have HZL : Hid (zss.length = ps.length) := hzl
  have HCJ : Hid (∀ k, k < ps.length → (zss.getD k []).length = Nn ∧ ∀ W, Old w W → Calls Tryd.prog 111 #[.agg #[.int .i64 (ps.getD k 0), .int .i64 Nn, .int .i64 (Rf k), .bool a, .slice (us1 k) Nn Nn]] W fun e w' => ∃ g cp, e = .returned (.slice (some ⟨g, 0, none⟩) Nn cp) ∧ Nn ≤ cp ∧ Old W w' ∧ Own w' W.heap.size (.slice (some ⟨g, 0, none⟩) Nn cp) (zss.getD k [])) := cj
  have HPS : Hid (ps.length ≠ 0) := fun h0 => by
    have hsp : spB Nn ps = true := (Bool.and_eq_true_iff.1 hx).1
    have h1 := (bas_at (sp_ring hsp).2.1).1
    omega
  clear hzl cj
  have HP : Hid (PrsW w) := hP
  have HT : Hid (TabW w) := hT
  obtain ⟨a0, cap0, ev⟩ := hv.slice
  subst ev
  have HA : Hid (Old w (((w.alloc (.cells #[.int .i64 Nn, .slice a0 ps.length cap0] 56)).alloc (.cells #[.bool a, .slice a1 xss.length cap1] 53)).alloc (.cells #[.bool false, .slice none 0 0] 53))) := (((Old.refl w).alloc _).alloc _).alloc _
  have HS : Hid (StW (((w.alloc (.cells #[.int .i64 Nn, .slice a0 ps.length cap0] 56)).alloc (.cells #[.bool a, .slice a1 xss.length cap1] 53)).alloc (.cells #[.bool false, .slice none 0 0] 53)) (w.heap.size + 1 + 1) (.bool false) (.slice none 0 0) 53) := by
    have := StW.new ((w.alloc (.cells #[.int .i64 Nn, .slice a0 ps.length cap0] 56)).alloc (.cells #[.bool a, .slice a1 xss.length cap1] 53)) (.bool false) (.slice none 0 0) 53
    simp at this
    exact this
  clear hv hP hT
  go_enter Tryd.func106, Tryd.ntmps106
  go_wp2_with fail
  refine (c1 _ (HP.out.old HA.out) (HT.out.old HA.out) HA.out).mono ?_
  rintro e w2 ⟨g1, hl⟩
  have HG2 : Hid (Old w w2) := Old.trans HA.out g1
  have S2 : Hid (StW w2 (w.heap.size + 1 + 1) (.bool false) (.slice none 0 0) 53) := HS.out.old g1
  have hs2 : w.heap.size + 1 + 1 < w2.heap.size := S2.out.lt
  clear g1
  rcases hl with ⟨hB, rfl⟩ | ⟨hB, g, hg, rfl, hrr⟩
  · rw [hx] at hB
    cases hB
  · have HLB : Hid (RRs w2 g Nn a ps Rf us1 ps.length) := hrr
    clear hrr hg hB hx
    have hpos : 1 ≤ ps.length := Nat.pos_of_ne_zero HPS.out
    have KC := changed_ahead (Nn : Int) a ps Rf (fun k => .slice (us1 k) (Nn : Int).toNat (Nn : Int).toNat) (.slice (some ⟨g, 0, none⟩) ps.length ps.length) ps.length w2 HLB.out.rd (fun k hk => ⟨_, _, _, rfl⟩) ⟨hpos, by omega⟩ zss (fun k hk W q => by
      rw [Int.toNat_natCast]
      exact ((HCJ.out k hk).2 W (Old.trans HG2.out q)).mono fun e w' h => by
        obtain ⟨g, cp, h1, h2, h3, h4⟩ := h
        exact ⟨_, h1, h3, h4⟩)
    have HKC : Hid (Calls Tryd.prog 147 #[.slice (some ⟨g, 0, none⟩) ps.length ps.length, .func (.func 111) #[] #[]] w2 fun e w' => e = .returned (.slice (some ⟨w2.heap.size, 0, none⟩) ps.length ps.length) ∧ Old w2 w' ∧ Ows (TS 116 5 ps.length (elR (Nn : Int) a ps Rf zss)) w' w2.heap.size w'.heap.size [.slice (some ⟨w2.heap.size, 0, none⟩) ps.length ps.length]) := KC
    have HKN : Hid (∀ W lo, Ows (TS 116 5 ps.length (elR (Nn : Int) a ps Rf zss)) W lo W.heap.size [.slice (some ⟨w2.heap.size, 0, none⟩) ps.length ps.length] → lo ≤ W.heap.size → Calls Tryd.prog 141 #[.slice (some ⟨w2.heap.size, 0, none⟩) ps.length ps.length] W fun e w' => e = .returned (.slice (some ⟨W.heap.size, 0, none⟩) ps.length ps.length) ∧ Old W w' ∧ OwS zss w' lo w'.heap.size (.slice (some ⟨W.heap.size, 0, none⟩) ps.length ps.length)) := fun W lo h hlo => numbersOf_any (Nn : Int) a ps Rf zss ps.length lo _ W ⟨hpos, by omega⟩ HZL.out h hlo
    clear KC HLB
    go_wp2_with fail
    refine HKC.out.mono ?_
    rintro e w3 ⟨rfl, g3, o3⟩
    have O3 : Hid (Ows (TS 116 5 ps.length (elR (Nn : Int) a ps Rf zss)) w3 w2.heap.size w3.heap.size [.slice (some ⟨w2.heap.size, 0, none⟩) ps.length ps.length]) := o3
    have G3 : Hid (Old w2 w3) := g3
    clear g3 o3 HKC
    go_wp2_with fail
    refine (HKN.out w3 w2.heap.size O3.out G3.out.size).mono ?_
    rintro e w4 ⟨rfl, g4, o4⟩
    have G4 : Hid (Old w2 w4) := Old.trans G3.out g4
    have O4 : Hid (OwS zss w4 w2.heap.size w4.heap.size (.slice (some ⟨w3.heap.size, 0, none⟩) ps.length ps.length)) := o4
    have SF : Hid (StW w4 (w.heap.size + 1 + 1) (.bool false) (.slice none 0 0) 53) := S2.out.old G4.out
    clear g4 o4 HKN O3
    have q0 := SF.out.c0
    have q1 := SF.out.c1
    have f0 := SF.out.f0
    have f1 := SF.out.f1
    go_wp2_with fail
    refine bodyPost_ret (ret_rb Tryd.results106 _ _ rfl rfl (st_put2 SF.out _ _)) rfl ⟨_, rfl, ?_, some ⟨w3.heap.size, 0, none⟩, ps.length, by rw [HZL.out], ?_⟩
    · exact ((Old.trans HG2.out G4.out).own (p := ⟨w.heap.size + 1 + 1, 0, none⟩) (by simp; omega) _).own (p := ⟨w.heap.size + 1 + 1, 1, none⟩) (by simp; omega) _
    · rw [HZL.out]
      have h2 := (O4.out.put (k := w.heap.size + 1 + 1) (j := 0) (x := .bool ah) (by omega)).put (k := w.heap.size + 1 + 1) (j := 1) (x := .slice (some ⟨w3.heap.size, 0, none⟩) ps.length ps.length) (by omega)
      have h3 := h2.low (lo' := w.heap.size) (by omega)
      exact h3.high (by simp) (Nat.le_refl _)
end Go.Proofs.YtpebikjckhcgfaaDoor
/- Proved: the program's eachRow. -/
namespace Go.Proofs.YtpebikjckhcgfaaDoor
open Go.ChangeShapes Go.WideShapes Go.ChangeAt Go.RowKit
open M1
set_option linter.unusedVariables false
set_option linter.unusedSimpArgs false
set_option maxRecDepth 100000 in
set_option maxHeartbeats 4000000 in
theorem eachRow_back_no (N : Int) (ps : List Int) (a ah : Bool) (xss : List (List Int)) (Rf : Nat → Int) (us1 : Nat → Option Addr) (v : Value) (a1 : Option Addr) (cap1 : Nat) (w : World) (hP : PrsW w) (hT : TabW w) (hv : Row w v ps)
    (c1 : ∀ W, PrsW W → TabW W → Old w W → Calls Tryd.prog 140 #[.agg #[.int .i64 N, v], .agg #[.bool a, .slice a1 xss.length cap1]] W fun e w' => Old W w' ∧ ((grB N ps xss = false ∧ e = .returned (.tuple #[.slice none 0 0, .bool false])) ∨ (grB N ps xss = true ∧ ∃ g, W.heap.size ≤ g ∧ e = .returned (.tuple #[.slice (some ⟨g, 0, none⟩) ps.length ps.length, .bool true]) ∧ RRs w' g N a ps Rf us1 ps.length))) (hno : grB N ps xss = false) :
    Calls Tryd.prog 106 #[.agg #[.int .i64 N, v], .agg #[.bool a, .slice a1 xss.length cap1], .bool ah, .func (.func 113) #[] #[]] w (Rs w false [] false) := by
  have HP : Hid (PrsW w) := hP
  have HT : Hid (TabW w) := hT
  obtain ⟨a0, cap0, ev⟩ := hv.slice
  subst ev
  have HA : Hid (Old w (((w.alloc (.cells #[.int .i64 N, .slice a0 ps.length cap0] 56)).alloc (.cells #[.bool a, .slice a1 xss.length cap1] 53)).alloc (.cells #[.bool false, .slice none 0 0] 53))) := (((Old.refl w).alloc _).alloc _).alloc _
  have HS : Hid (StW (((w.alloc (.cells #[.int .i64 N, .slice a0 ps.length cap0] 56)).alloc (.cells #[.bool a, .slice a1 xss.length cap1] 53)).alloc (.cells #[.bool false, .slice none 0 0] 53)) (w.heap.size + 1 + 1) (.bool false) (.slice none 0 0) 53) := by
    have := StW.new ((w.alloc (.cells #[.int .i64 N, .slice a0 ps.length cap0] 56)).alloc (.cells #[.bool a, .slice a1 xss.length cap1] 53)) (.bool false) (.slice none 0 0) 53
    simp at this
    exact this
  clear hv hP hT
  go_enter Tryd.func106, Tryd.ntmps106
  go_wp2_with fail
  refine (c1 _ (HP.out.old HA.out) (HT.out.old HA.out) HA.out).mono ?_
  rintro e w2 ⟨g1, hl⟩
  have HG2 : Hid (Old w w2) := Old.trans HA.out g1
  have S2 : Hid (StW w2 (w.heap.size + 1 + 1) (.bool false) (.slice none 0 0) 53) := HS.out.old g1
  have hs2 : w.heap.size + 1 + 1 < w2.heap.size := S2.out.lt
  clear g1
  rcases hl with ⟨hB, rfl⟩ | ⟨hB, g, hg, rfl, hrr⟩
  · have q0 := S2.out.c0
    have q1 := S2.out.c1
    have f0 := S2.out.f0
    have f1 := S2.out.f1
    clear hB hno
    go_wp2_with fail
    refine bodyPost_ret (ret_rb (x := .bool false) (y := .slice none 0 0) (z := .bool false) Tryd.results106 _ _ rfl rfl (st_put2 S2.out _ _)) rfl ⟨_, rfl, ?_, XR.nil _ _ _ _ (Nat.le_refl _)⟩
    exact (HG2.out.own (p := ⟨w.heap.size + 1 + 1, 0, none⟩) (by simp; omega) _).own (p := ⟨w.heap.size + 1 + 1, 1, none⟩) (by simp; omega) _
  · rw [hno] at hB
    cases hB
set_option maxRecDepth 100000 in
set_option maxHeartbeats 8000000 in
theorem eachRow_back_yes (Nn : Nat) (ps : List Int) (a ah : Bool) (xss : List (List Int)) (Rf : Nat → Int) (us1 : Nat → Option Addr) (v : Value) (a1 : Option Addr) (cap1 : Nat) (w : World) (hP : PrsW w) (hT : TabW w) (hv : Row w v ps)
    (c1 : ∀ W, PrsW W → TabW W → Old w W → Calls Tryd.prog 140 #[.agg #[.int .i64 Nn, v], .agg #[.bool a, .slice a1 xss.length cap1]] W fun e w' => Old W w' ∧ ((grB Nn ps xss = false ∧ e = .returned (.tuple #[.slice none 0 0, .bool false])) ∨ (grB Nn ps xss = true ∧ ∃ g, W.heap.size ≤ g ∧ e = .returned (.tuple #[.slice (some ⟨g, 0, none⟩) ps.length ps.length, .bool true]) ∧ RRs w' g Nn a ps Rf us1 ps.length))) (hx : grB Nn ps xss = true) (zss : List (List Int)) (hzl : zss.length = ps.length) (hps : ps.length ≤ 6)
    (cj : ∀ k, k < ps.length → (zss.getD k []).length = Nn ∧ ∀ W, Old w W → Calls Tryd.prog 113 #[.agg #[.int .i64 (ps.getD k 0), .int .i64 Nn, .int .i64 (Rf k), .bool a, .slice (us1 k) Nn Nn]] W fun e w' => ∃ g cp, e = .returned (.slice (some ⟨g, 0, none⟩) Nn cp) ∧ Nn ≤ cp ∧ Old W w' ∧ Own w' W.heap.size (.slice (some ⟨g, 0, none⟩) Nn cp) (zss.getD k [])) :
    Calls Tryd.prog 106 #[.agg #[.int .i64 Nn, v], .agg #[.bool a, .slice a1 xss.length cap1], .bool ah, .func (.func 113) #[] #[]] w (Rs w ah zss true) := by
  have HZL : Hid (zss.length = ps.length) := hzl
  have HCJ : Hid (∀ k, k < ps.length → (zss.getD k []).length = Nn ∧ ∀ W, Old w W → Calls Tryd.prog 113 #[.agg #[.int .i64 (ps.getD k 0), .int .i64 Nn, .int .i64 (Rf k), .bool a, .slice (us1 k) Nn Nn]] W fun e w' => ∃ g cp, e = .returned (.slice (some ⟨g, 0, none⟩) Nn cp) ∧ Nn ≤ cp ∧ Old W w' ∧ Own w' W.heap.size (.slice (some ⟨g, 0, none⟩) Nn cp) (zss.getD k [])) := cj
  have HPS : Hid (ps.length ≠ 0) := fun h0 => by
    have hsp : spB Nn ps = true := (Bool.and_eq_true_iff.1 hx).1
    have h1 := (bas_at (sp_ring hsp).2.1).1
    omega
  clear hzl cj
  have HP : Hid (PrsW w) := hP
  have HT : Hid (TabW w) := hT
  obtain ⟨a0, cap0, ev⟩ := hv.slice
  subst ev
  have HA : Hid (Old w (((w.alloc (.cells #[.int .i64 Nn, .slice a0 ps.length cap0] 56)).alloc (.cells #[.bool a, .slice a1 xss.length cap1] 53)).alloc (.cells #[.bool false, .slice none 0 0] 53))) := (((Old.refl w).alloc _).alloc _).alloc _
  have HS : Hid (StW (((w.alloc (.cells #[.int .i64 Nn, .slice a0 ps.length cap0] 56)).alloc (.cells #[.bool a, .slice a1 xss.length cap1] 53)).alloc (.cells #[.bool false, .slice none 0 0] 53)) (w.heap.size + 1 + 1) (.bool false) (.slice none 0 0) 53) := by
    have := StW.new ((w.alloc (.cells #[.int .i64 Nn, .slice a0 ps.length cap0] 56)).alloc (.cells #[.bool a, .slice a1 xss.length cap1] 53)) (.bool false) (.slice none 0 0) 53
    simp at this
    exact this
  clear hv hP hT
  go_enter Tryd.func106, Tryd.ntmps106
  go_wp2_with fail
  refine (c1 _ (HP.out.old HA.out) (HT.out.old HA.out) HA.out).mono ?_
  rintro e w2 ⟨g1, hl⟩
  have HG2 : Hid (Old w w2) := Old.trans HA.out g1
  have S2 : Hid (StW w2 (w.heap.size + 1 + 1) (.bool false) (.slice none 0 0) 53) := HS.out.old g1
  have hs2 : w.heap.size + 1 + 1 < w2.heap.size := S2.out.lt
  clear g1
  rcases hl with ⟨hB, rfl⟩ | ⟨hB, g, hg, rfl, hrr⟩
  · rw [hx] at hB
    cases hB
  · have HLB : Hid (RRs w2 g Nn a ps Rf us1 ps.length) := hrr
    clear hrr hg hB hx
    have hpos : 1 ≤ ps.length := Nat.pos_of_ne_zero HPS.out
    have KC := changed_back (Nn : Int) a ps Rf (fun k => .slice (us1 k) (Nn : Int).toNat (Nn : Int).toNat) (.slice (some ⟨g, 0, none⟩) ps.length ps.length) ps.length w2 HLB.out.rd (fun k hk => ⟨_, _, _, rfl⟩) ⟨hpos, by omega⟩ zss (fun k hk W q => by
      rw [Int.toNat_natCast]
      exact ((HCJ.out k hk).2 W (Old.trans HG2.out q)).mono fun e w' h => by
        obtain ⟨g, cp, h1, h2, h3, h4⟩ := h
        exact ⟨_, h1, h3, h4⟩)
    have HKC : Hid (Calls Tryd.prog 147 #[.slice (some ⟨g, 0, none⟩) ps.length ps.length, .func (.func 113) #[] #[]] w2 fun e w' => e = .returned (.slice (some ⟨w2.heap.size, 0, none⟩) ps.length ps.length) ∧ Old w2 w' ∧ Ows (TS 116 5 ps.length (elR (Nn : Int) a ps Rf zss)) w' w2.heap.size w'.heap.size [.slice (some ⟨w2.heap.size, 0, none⟩) ps.length ps.length]) := KC
    have HKN : Hid (∀ W lo, Ows (TS 116 5 ps.length (elR (Nn : Int) a ps Rf zss)) W lo W.heap.size [.slice (some ⟨w2.heap.size, 0, none⟩) ps.length ps.length] → lo ≤ W.heap.size → Calls Tryd.prog 141 #[.slice (some ⟨w2.heap.size, 0, none⟩) ps.length ps.length] W fun e w' => e = .returned (.slice (some ⟨W.heap.size, 0, none⟩) ps.length ps.length) ∧ Old W w' ∧ OwS zss w' lo w'.heap.size (.slice (some ⟨W.heap.size, 0, none⟩) ps.length ps.length)) := fun W lo h hlo => numbersOf_any (Nn : Int) a ps Rf zss ps.length lo _ W ⟨hpos, by omega⟩ HZL.out h hlo
    clear KC HLB
    go_wp2_with fail
    refine HKC.out.mono ?_
    rintro e w3 ⟨rfl, g3, o3⟩
    have O3 : Hid (Ows (TS 116 5 ps.length (elR (Nn : Int) a ps Rf zss)) w3 w2.heap.size w3.heap.size [.slice (some ⟨w2.heap.size, 0, none⟩) ps.length ps.length]) := o3
    have G3 : Hid (Old w2 w3) := g3
    clear g3 o3 HKC
    go_wp2_with fail
    refine (HKN.out w3 w2.heap.size O3.out G3.out.size).mono ?_
    rintro e w4 ⟨rfl, g4, o4⟩
    have G4 : Hid (Old w2 w4) := Old.trans G3.out g4
    have O4 : Hid (OwS zss w4 w2.heap.size w4.heap.size (.slice (some ⟨w3.heap.size, 0, none⟩) ps.length ps.length)) := o4
    have SF : Hid (StW w4 (w.heap.size + 1 + 1) (.bool false) (.slice none 0 0) 53) := S2.out.old G4.out
    clear g4 o4 HKN O3
    have q0 := SF.out.c0
    have q1 := SF.out.c1
    have f0 := SF.out.f0
    have f1 := SF.out.f1
    go_wp2_with fail
    refine bodyPost_ret (ret_rb Tryd.results106 _ _ rfl rfl (st_put2 SF.out _ _)) rfl ⟨_, rfl, ?_, some ⟨w3.heap.size, 0, none⟩, ps.length, by rw [HZL.out], ?_⟩
    · exact ((Old.trans HG2.out G4.out).own (p := ⟨w.heap.size + 1 + 1, 0, none⟩) (by simp; omega) _).own (p := ⟨w.heap.size + 1 + 1, 1, none⟩) (by simp; omega) _
    · rw [HZL.out]
      have h2 := (O4.out.put (k := w.heap.size + 1 + 1) (j := 0) (x := .bool ah) (by omega)).put (k := w.heap.size + 1 + 1) (j := 1) (x := .slice (some ⟨w3.heap.size, 0, none⟩) ps.length ps.length) (by omega)
      have h3 := h2.low (lo' := w.heap.size) (by omega)
      exact h3.high (by simp) (Nat.le_refl _)
end Go.Proofs.YtpebikjckhcgfaaDoor
