/- Proved: the contract of DrawNoiseRow: some words, and three numbers in small ranges. -/
import Derived.Test.YtonbimgdkafnjaaCoinD
namespace Go.Proofs.Ytonbimgdkafnjaa
open Go.ChangeShapes Go.WideShapes Go.ChangeAt Go.RowKit
set_option linter.unusedVariables false
set_option linter.unusedSimpArgs false
/-- a small number -/
def sml (v : Int) : Prop := -100 ≤ v ∧ v ≤ 100
theorem CuP.weak {Z Z' : Int → Prop} {w : World} {code : Value} {len c B : Nat} {e : Ending} {w' : World} (h : CuP Z w code len c B e w') (hz : ∀ v, Z v → Z' v) : CuP Z' w code len c B e w' := by
  obtain ⟨⟨v, h1, h2⟩, h3⟩ := h
  exact ⟨⟨v, hz v h1, h2⟩, h3⟩
set_option maxRecDepth 100000 in
set_option maxHeartbeats 4000000 in
theorem noiseOf_c {w : World} {code : Value} {len c B : Nat} (h : Cu w code len c B) (hB : B ≤ 137438953472) (hl : len ≤ 9223372036854775807) :
    Calls Try.prog 49 #[.pointer (some ⟨c, 0, none⟩)] w fun e w' => CuP sml w code len c (B + 10) e w' := by
  have c1 := one_c h (by omega) hl 16 (by omega) (by omega)
  clear h
  go_enter Try.func49, Try.ntmps49
  go_wp2_with fail
  refine c1.mono ?_
  rintro e w1 ⟨⟨o, rfl⟩, g1, C1⟩
  have HG1 : Hid (Chg w w1 c (c + 1)) := g1
  cases o
  · have c2 := pick_c C1 (by omega) hl 6 (by omega) (by omega)
    clear g1 C1 c1
    go_wp2_with fail
    refine c2.mono ?_
    rintro e w2 ⟨⟨v, ⟨hv0, hv1⟩, rfl⟩, g2, C2⟩
    have HG2 : Hid (Chg w w2 c (c + 1)) := HG1.out.trans g2
    have HC2 : Hid (Cu w2 code len c (B + 2 + 2)) := C2
    clear g2 C2 c2
    go_wp2_with fail
    go_ret
    exact ⟨⟨1 + v, ⟨by omega, by omega⟩, rfl⟩, HG2.out, HC2.out.mono (by omega)⟩
  · have c2 := among_lit C1 (by omega) hl [0, 16, 17] (by decide) (by decide) 3
    clear g1 C1 c1
    go_wp2_with fail
    refine c2.mono ?_
    rintro e w2 ⟨⟨v, hv, rfl⟩, g2, C2⟩
    have HG2 : Hid (Chg w w2 c (c + 1)) := HG1.out.trans g2
    have HC2 : Hid (Cu w2 code len c (B + 2 + 2)) := C2
    have HV : Hid (sml v) := by
      simp only [List.mem_cons, List.not_mem_nil, or_false] at hv
      rcases hv with rfl | rfl | rfl
      all_goals exact ⟨by omega, by omega⟩
    clear g2 C2 c2 hv
    go_wp2_with fail
    go_ret
    exact ⟨⟨v, HV.out, rfl⟩, HG2.out, HC2.out.mono (by omega)⟩
set_option maxRecDepth 100000 in
set_option maxHeartbeats 4000000 in
theorem manyOf_c {w : World} {code : Value} {len c B : Nat} (h : Cu w code len c B) (hB : B ≤ 137438953472) (hl : len ≤ 9223372036854775807) :
    Calls Try.prog 50 #[.pointer (some ⟨c, 0, none⟩)] w fun e w' => CuP sml w code len c (B + 10) e w' := by
  have c1 := one_c h (by omega) hl 20 (by omega) (by omega)
  clear h
  go_enter Try.func50, Try.ntmps50
  go_wp2_with fail
  refine c1.mono ?_
  rintro e w1 ⟨⟨o, rfl⟩, g1, C1⟩
  have HG1 : Hid (Chg w w1 c (c + 1)) := g1
  cases o
  · have c2 := pick_c C1 (by omega) hl 12 (by omega) (by omega)
    clear g1 C1 c1
    go_wp2_with fail
    refine c2.mono ?_
    rintro e w2 ⟨⟨v, ⟨hv0, hv1⟩, rfl⟩, g2, C2⟩
    have HG2 : Hid (Chg w w2 c (c + 1)) := HG1.out.trans g2
    have HC2 : Hid (Cu w2 code len c (B + 2 + 2)) := C2
    clear g2 C2 c2
    go_wp2_with fail
    go_ret
    exact ⟨⟨v, ⟨by omega, by omega⟩, rfl⟩, HG2.out, HC2.out.mono (by omega)⟩
  · have c2 := among_lit C1 (by omega) hl [-1, 64, 65] (by decide) (by decide) 3
    clear g1 C1 c1
    go_wp2_with fail
    refine c2.mono ?_
    rintro e w2 ⟨⟨v, hv, rfl⟩, g2, C2⟩
    have HG2 : Hid (Chg w w2 c (c + 1)) := HG1.out.trans g2
    have HC2 : Hid (Cu w2 code len c (B + 2 + 2)) := C2
    have HV : Hid (sml v) := by
      simp only [List.mem_cons, List.not_mem_nil, or_false] at hv
      rcases hv with rfl | rfl | rfl
      all_goals exact ⟨by omega, by omega⟩
    clear g2 C2 c2 hv
    go_wp2_with fail
    go_ret
    exact ⟨⟨v, HV.out, rfl⟩, HG2.out, HC2.out.mono (by omega)⟩
/-- what a draw of words leaves -/
def CuW (w : World) (code : Value) (len c B : Nat) (e : Ending) (w' : World) : Prop :=
  ∃ a cp xs x, e = .returned (.tuple #[.slice a xs.length cp, .int .i64 x]) ∧ xs.length ≤ 23 ∧ sml x ∧ Chg w w' c (c + 1) ∧ Cu w' code len c B ∧ Own w' w.heap.size (.slice a xs.length cp) xs
set_option maxRecDepth 100000 in
set_option maxHeartbeats 4000000 in
theorem someWords_c {w : World} {code : Value} {len c B : Nat} (h : Cu w code len c B) (hB : B ≤ 68719476736) (hl : len ≤ 9223372036854775807) :
    Calls Try.prog 48 #[.pointer (some ⟨c, 0, none⟩)] w fun e w' => CuW w code len c (B + 2000) e w' := by
  have c1 := pick_c h (by omega) hl 24 (by omega) (by omega)
  have hcw := h.lt
  clear h
  go_enter Try.func48, Try.ntmps48
  go_wp2_with fail
  refine c1.mono ?_
  rintro e w1 ⟨⟨v, ⟨hv0, hv1⟩, rfl⟩, g1, C1⟩
  obtain ⟨n, rfl⟩ := Int.eq_ofNat_of_zero_le hv0
  have c2 := words_c C1 (by omega) hl n (by omega)
  have HG1 : Hid (Chg w w1 c (c + 1)) := g1
  have hs1 := g1.size
  clear g1 C1 c1
  go_wp2_with fail
  refine c2.mono ?_
  rintro e w2 ⟨v2, xs, rfl, hxl, g2, C2, o2⟩
  obtain ⟨a, cp, rfl⟩ := (Own.row o2).slice
  have HG2 : Hid (Chg w w2 c (c + 1)) := HG1.out.trans g2
  have HO2 : Hid (Own w2 w.heap.size (.slice a xs.length cp) xs) := o2.low hs1
  have c3 := pick_c C2 (by omega) hl 4 (by omega) (by omega)
  have lx : xs.length ≤ 23 := by omega
  clear g2 C2 o2 c2 hxl HG1
  go_wp2_with fail
  refine c3.mono ?_
  rintro e w3 ⟨⟨x, ⟨hx0, hx1⟩, rfl⟩, g3, C3⟩
  have HG3 : Hid (Chg w w3 c (c + 1)) := HG2.out.trans g3
  have HO3 : Hid (Own w3 w.heap.size (.slice a xs.length cp) xs) := HO2.out.chg g3 (fun p hp => Or.inr (by have := (HO2.out.lt p hp).1; omega))
  have c4 := one_c C3 (by omega) hl 16 (by omega) (by omega)
  clear g3 C3 c3 HG2 HO2
  go_wp2_with fail
  refine c4.mono ?_
  rintro e w4 ⟨⟨o, rfl⟩, g4, C4⟩
  have HG4 : Hid (Chg w w4 c (c + 1)) := HG3.out.trans g4
  have HO4 : Hid (Own w4 w.heap.size (.slice a xs.length cp) xs) := HO3.out.chg g4 (fun p hp => Or.inr (by have := (HO3.out.lt p hp).1; omega))
  have HC4 : Hid (Cu w4 code len c (B + 2 + 1000 + 2 + 2)) := C4
  clear g4 C4 c4 HG3 HO3
  cases o
  · go_wp2_with fail
    go_ret2
    exact ⟨a, cp, xs, x, rfl, lx, ⟨by omega, by omega⟩, HG4.out, HC4.out.mono (by omega), HO4.out⟩
  · have c5 := among_lit HC4.out (by omega) hl [-1, (xs.length : Int), (xs.length : Int) + 1] (by simp) (by simp) 3
    go_wp2_with fail
    refine c5.mono ?_
    rintro e w5 ⟨⟨y, hy, rfl⟩, g5, C5⟩
    have HG5 : Hid (Chg w w5 c (c + 1)) := HG4.out.trans g5
    have HO5 : Hid (Own w5 w.heap.size (.slice a xs.length cp) xs) := HO4.out.chg g5 (fun p hp => Or.inr (by have := (HO4.out.lt p hp).1; omega))
    have HC5 : Hid (Cu w5 code len c (B + 2 + 1000 + 2 + 2 + 2)) := C5
    have HV : Hid (sml y) := by
      simp only [List.mem_cons, List.not_mem_nil, or_false] at hy
      rcases hy with rfl | rfl | rfl
      all_goals exact ⟨by omega, by omega⟩
    clear g5 C5 c5 hy HG4 HO4 HC4
    go_wp2_with fail
    go_ret2
    exact ⟨a, cp, xs, y, rfl, lx, HV.out, HG5.out, HC5.out.mono (by omega), HO5.out⟩
set_option maxRecDepth 100000 in
set_option maxHeartbeats 4000000 in
theorem drawNoiseRow_c (w : World) (code : Value) (len : Nat) (h : BysW w code len) (hl : len ≤ 9223372036854775807) :
    Calls Try.prog 15 #[code] w fun e w' => ∃ a cp xs x y z, e = .returned (.tuple #[.slice a xs.length cp, .int .i64 x, .int .i64 y, .int .i64 z]) ∧ xs.length ≤ 23 ∧ sml x ∧ sml y ∧ sml z ∧ Old w w' ∧ Own w' w.heap.size (.slice a xs.length cp) xs := by
  have C0 := Cu.new h
  have c1 := someWords_c C0 (by omega) hl
  obtain ⟨ca, ccap, hcode⟩ : ∃ ca ccap, code = .slice ca len ccap := by
    rcases h with ⟨a, cap, e, e2⟩ | ⟨b, o, cap, e, _⟩
    · exact ⟨a, cap, by rw [e, e2]⟩
    · exact ⟨_, cap, e⟩
  subst hcode
  clear h C0
  go_enter Try.func15, Try.ntmps15
  go_wp2_with fail
  refine c1.mono ?_
  rintro e w1 ⟨a, cp, xs, x, rfl, lx, hx, g1, C1, o1⟩
  have HG1 : Hid (Old w w1) := ((Old.refl w).alloc _).chg g1 (Nat.le_refl _)
  have HO1 : Hid (Own w1 (w.heap.size + 1) (.slice a xs.length cp) xs) := by show Own _ _ _ _; simpa using o1
  have HX : Hid (sml x) := hx
  have c2 := noiseOf_c C1 (by omega) hl
  clear g1 C1 o1 c1 hx
  go_wp2_with fail
  refine c2.mono ?_
  rintro e w2 ⟨⟨y, hy, rfl⟩, g2, C2⟩
  have HG2 : Hid (Old w w2) := HG1.out.chg g2 (Nat.le_refl _)
  have HO2 : Hid (Own w2 (w.heap.size + 1) (.slice a xs.length cp) xs) := HO1.out.chg g2 (fun p hp => Or.inr (HO1.out.lt p hp).1)
  have HY : Hid (sml y) := hy
  have c3 := manyOf_c C2 (by omega) hl
  clear g2 C2 c2 hy HG1 HO1
  go_wp2_with fail
  refine c3.mono ?_
  rintro e w3 ⟨⟨z, hz, rfl⟩, g3, C3⟩
  have HG3 : Hid (Old w w3) := HG2.out.chg g3 (Nat.le_refl _)
  have HO3 : Hid (Own w3 (w.heap.size + 1) (.slice a xs.length cp) xs) := HO2.out.chg g3 (fun p hp => Or.inr (HO2.out.lt p hp).1)
  have HZ : Hid (sml z) := hz
  clear g3 C3 c3 hz HG2 HO2
  go_wp2_with fail
  refine bodyPost_ret (v := .tuple #[.slice a xs.length cp, .int .i64 x, .int .i64 y, .int .i64 z]) (by simp [results, Try.results15, go_sem]) rfl ⟨a, cp, xs, x, y, z, rfl, lx, HX.out, HY.out, HZ.out, HG3.out, HO3.out.low (by omega)⟩
end Go.Proofs.Ytonbimgdkafnjaa
