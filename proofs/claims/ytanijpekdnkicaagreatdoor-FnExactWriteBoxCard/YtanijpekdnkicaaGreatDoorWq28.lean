/- Proved: several texts in one: what each proves is said ahead of it. -/
import Derived.Test.YtanijpekdnkicaaGreatDoorWq27
import Derived.Test.YtanijpekdnkicaaGreatDoorWq14
import Derived.Deep.Slices
import Derived.Deep.SlicePairs
/- Proved: a cipher that comes in, opened: rows of rows of rows of numbers. -/
namespace Go.Proofs.YtanijpekdnkicaaGreatDoor
open Go.ChangeShapes Go.WideShapes Go.ChangeAt Go.RowKit Go.Joins
set_option linter.unusedVariables false
set_option linter.unusedSimpArgs false
theorem cellsIntSST : Tryz.prog.cellsOf 69 = 1 := by kernel_rfl
def LenS (xss : List (List Int)) : Prop := xss.length ≤ 9223372036854775807 ∧ ∀ q ∈ xss, q.length ≤ 9223372036854775807
theorem open_rowsS {H : Type} {enc : TypeId × Value → H} {W : World} {fuel : Nat} {v : Value} {x : DataW H × List MemPlace} (h : DataW.trod enc Tryz.prog W 0 (fun _ => true) true fuel 69 [v] = some x) : ∃ xss, RowS W v xss ∧ LenS xss := by
  rcases Go.Deep.open_int_rows Tryz.underlying69 Tryz.underlying22 Tryz.underlying3 cellsIntsT cellsIntT h with ⟨hcs, _⟩ | ⟨a, len, cap, A, L, C, Z, hcs, _, hl, hm, _, hr⟩
  · simp at hcs
    subst hcs
    exact ⟨[], Or.inl ⟨none, 0, rfl, rfl⟩, by simp [LenS]⟩
  · simp at hcs
    subst hcs
    obtain ⟨xss, e, h1, h2, h3⟩ := rows_of hl hr
    refine ⟨xss, h1, ?_, h2⟩
    rw [e]
    have : cap ≤ 2 ^ 63 - 1 := hm
    omega
end Go.Proofs.YtanijpekdnkicaaGreatDoor
/- Proved: pairs of rows that come in, opened: one, and a slice of them. -/
namespace Go.Proofs.YtanijpekdnkicaaGreatDoor
open Go.ChangeShapes Go.WideShapes Go.ChangeAt Go.RowKit Go.Joins
set_option linter.unusedVariables false
set_option linter.unusedSimpArgs false
theorem cellsPairL : Tryz.prog.cellsOf 71 = 2 := by kernel_rfl
theorem cellsIntSSP : Tryz.prog.cellsOf 69 = 1 := by kernel_rfl
theorem choosePr {α : Type} (P : Nat → α → Prop) (d : α) (m : Nat) (h : ∀ i, i < m → ∃ x, P i x) : ∃ f : Nat → α, ∀ i, i < m → P i (f i) := by
  classical
  refine ⟨fun i => if hi : i < m then Classical.choose (h i hi) else d, fun i hi => ?_⟩
  simp only [hi, dif_pos]
  exact Classical.choose_spec (h i hi)
def LenK (kss : List PrV) : Prop := kss.length ≤ 9223372036854775807 ∧ ∀ r ∈ kss, PrLe 9223372036854775807 r
set_option maxRecDepth 100000 in
theorem open_pairsT {H : Type} {enc : TypeId × Value → H} {W : World} {fuel : Nat} {v : Value} {x : DataW H × List MemPlace} (hf : DataW.trod enc Tryz.prog W 0 (fun _ => true) true fuel 28 [v] = some x) : ∃ kss, RowK W v kss ∧ LenK kss := by
  rcases Go.Deep.open_slice_pairs Tryz.underlying28 Tryz.underlying71 cellsPairL rfl rfl cellsIntSSP cellsIntSSP hf with ⟨hcs, _⟩ | ⟨a, len, cap, m, n, V0, V1, D0, D1, P0, P1, hcs, hb, hl, hm, hmm, _, hx⟩
  · simp at hcs
    subst hcs
    exact ⟨[], Or.inl ⟨none, 0, rfl, rfl⟩, by simp [LenK]⟩
  · simp at hcs
    subst hcs
    simp only [if_true] at hmm
    subst hmm
    have each : ∀ i, i < m → ∃ y : PrV, W.cell? (a.add (i * 2)) = some (V0 i) ∧ W.cell? (a.add (i * 2 + 1)) = some (V1 i) ∧ (RowS W (V0 i) y.1 ∧ LenS y.1) ∧ RowS W (V1 i) y.2 ∧ LenS y.2 := by
      intro i hi
      obtain ⟨g0, g1, t0, t1⟩ := hx i hi
      obtain ⟨xss, h1⟩ := open_rowsS t0
      obtain ⟨yss, h2⟩ := open_rowsS t1
      exact ⟨(xss, yss), g0, g1, h1, h2⟩
    obtain ⟨f, hfe⟩ := choosePr _ ([], []) m each
    have hget : ∀ j, j < len → pk ((List.range len).map f) j = f j := fun j hj => by simp [pk, List.getD, hj]
    refine ⟨(List.range len).map f, ?_, ?_, fun r hr => ?_⟩
    · rcases Nat.eq_zero_or_pos len with h0 | h0
      · subst h0
        exact Or.inl ⟨_, _, rfl, rfl⟩
      · have h1 := (hfe 0 (by omega)).1
        obtain ⟨b, o, spot⟩ := a
        have hspot : spot = none := by simpa [Addr.add] using World.cell?_spot h1
        subst hspot
        refine Or.inr ⟨b, o, m, V0, V1, by simp, ?_, by simpa using h0, fun j hj => ?_⟩
        · have := block_lt_of_cell h1
          simpa [Addr.add] using this
        · have hj' : j < len := by simpa using hj
          rw [hget j hj']
          obtain ⟨g0, g1, ⟨r0, _⟩, r1, _⟩ := hfe j (by omega)
          refine ⟨?_, ?_, r0, r1⟩
          · rw [← g0]
            by_cases hj0 : j = 0
            · subst hj0; simp [Addr.add]
            · have hj2 : ¬ j * 2 = 0 := by omega
              simp [Addr.add, hj2]
          · rw [← g1]
            simp [Addr.add, Nat.add_assoc]
    · rw [List.length_map, List.length_range]
      have : m ≤ 2 ^ 63 - 1 := hm
      omega
    · obtain ⟨j, hj, rfl⟩ := List.mem_map.1 hr
      obtain ⟨_, _, ⟨_, l1, l2⟩, _, l3, l4⟩ := hfe j (by have := List.mem_range.1 hj; omega)
      exact ⟨⟨by omega, fun q hq => by have := l2 q hq; omega⟩, by omega, fun q hq => by have := l4 q hq; omega⟩
end Go.Proofs.YtanijpekdnkicaaGreatDoor
/- Proved: a box that comes in, opened. -/
namespace Go.Proofs.YtanijpekdnkicaaGreatDoor
open Go.ChangeShapes Go.WideShapes Go.ChangeAt Go.RowKit Go.Joins
set_option linter.unusedVariables false
set_option linter.unusedSimpArgs false
set_option maxRecDepth 100000 in
theorem open_intsT {H : Type} {enc : TypeId × Value → H} {W : World} {fuel : Nat} {v : Value} {x : DataW H × List MemPlace} (h : DataW.trod enc Tryz.prog W 0 (fun _ => true) true fuel 22 [v] = some x) : ∃ xs, Row W v xs ∧ xs.length ≤ 9223372036854775807 ∧ ∀ n ∈ xs, (Lit.int .i64 n).wf = true := by
  rcases open_ints Tryz.underlying22 Tryz.underlying3 cellsIntT h with ⟨hcs, _⟩ | ⟨x, l, c, zs, hcs, _, hl, hm, hz, _, hcell, hwz⟩
  · simp at hcs
    subst hcs
    exact ⟨[], Or.inl ⟨none, 0, rfl, rfl⟩, by simp, by simp⟩
  · simp at hcs
    subst hcs
    have hz' : zs.length = c := by simpa using hz
    refine ⟨zs.take l, row_of_ints hl hz' hcell, ?_, fun n hn => hwz n (List.mem_of_mem_take hn)⟩
    rw [List.length_take]
    have : c ≤ 2 ^ 63 - 1 := hm
    omega
set_option maxRecDepth 100000 in
theorem open_cipherT {H : Type} {enc : TypeId × Value → H} {W : World} {fuel : Nat} {c0 : Value} {y0 : DataW H × List MemPlace} (hy0 : DataW.trod enc Tryz.prog W 0 (fun _ => true) true fuel 25 [c0] = some y0) : ∃ xsss, RowT W c0 xsss ∧ xsss.length ≤ 9223372036854775807 ∧ ∀ r ∈ xsss, LenS r := by
  rcases Go.Deep.open_slice1 Tryz.underlying25 cellsIntSST hy0 with ⟨hcs, _⟩ | ⟨a, len, cap, m, n', V, D, Pl, hcs, _, hl, hm, hmm, _, hv⟩
  · simp at hcs
    subst hcs
    exact ⟨[], .inl ⟨none, 0, rfl, rfl⟩, by simp, by simp⟩
  · simp at hcs
    subst hcs
    simp only [if_true] at hmm
    subst hmm
    have key : ∀ i, ∃ xss : List (List Int), i < m → RowS W (V i) xss ∧ LenS xss := fun i => by
      by_cases hi : i < m
      · obtain ⟨xss, h1, h2⟩ := open_rowsS (hv i hi).2
        exact ⟨xss, fun _ => ⟨h1, h2⟩⟩
      · exact ⟨[], fun h => absurd h hi⟩
    obtain ⟨f, hf⟩ := Classical.skolem.1 key
    have hget : ∀ j, j < len → ((List.range len).map f).getD j [] = f j := fun j hj => by simp [List.getD, hj]
    refine ⟨(List.range len).map f, ?_, ?_, fun r hr => ?_⟩
    · rcases Nat.eq_zero_or_pos len with h0 | h0
      · subst h0
        exact Or.inl ⟨_, _, rfl, rfl⟩
      · have h1 := (hv 0 (by omega)).1
        obtain ⟨b, o, spot⟩ := a
        have hspot : spot = none := by simpa [Addr.add] using World.cell?_spot h1
        subst hspot
        refine Or.inr ⟨b, o, m, V, by simp, ?_, by simpa using h0, fun j hj => ?_⟩
        · have := block_lt_of_cell h1
          simpa [Addr.add] using this
        · have hj' : j < len := by simpa using hj
          rw [hget j hj']
          refine ⟨?_, (hf j (by omega)).1⟩
          rw [← (hv j (by omega)).1]
          by_cases hj0 : j = 0
          · subst hj0; simp [Addr.add]
          · simp [Addr.add, hj0]
    · rw [List.length_map, List.length_range]
      have : m ≤ 2 ^ 63 - 1 := hm
      omega
    · obtain ⟨j, hj, rfl⟩ := List.mem_map.1 hr
      exact (hf j (by have := List.mem_range.1 hj; omega)).2
theorem cellsBoxL : Tryz.prog.cellsOf 52 = 10 := by kernel_rfl
theorem array10 {α : Type} {cs : Array α} (h : cs.size = 10) : ∃ c0 c1 c2 c3 c4 c5 c6 c7 c8 c9, cs = #[c0, c1, c2, c3, c4, c5, c6, c7, c8, c9] := by
  obtain ⟨l⟩ := cs
  match l, h with
  | [c0, c1, c2, c3, c4, c5, c6, c7, c8, c9], _ => exact ⟨c0, c1, c2, c3, c4, c5, c6, c7, c8, c9, rfl⟩
set_option maxRecDepth 100000 in
set_option maxHeartbeats 2000000 in
theorem open_box {H : Type} {enc : TypeId × Value → H} {W : World} {base : Nat} {v : Value} {d : DataW H} {p : List MemPlace} (hok : Value.okWide Tryz.prog W .any base 52 v)
    (h : DataW.Trod enc Tryz.prog W 0 (fun _ => true) true 52 v d p) : ∃ kd N T E ps pl xs3 sg ls kss, BoxW W v kd N T E ps pl xs3 sg ls kss ∧ BoxLe 9223372036854775807 ps pl xs3 ls kss ∧ ∀ n ∈ ps, (Lit.int .i64 n).wf = true := by
  obtain ⟨cs, rfl, hsz⟩ := okWide_struct Tryz.underlying52 hok
  obtain ⟨c0, c1, c2, c3, c4, c5, c6, c7, c8, c9, rfl⟩ := array10 (hsz.trans cellsBoxL)
  obtain ⟨fuel, hf⟩ := h
  obtain ⟨xs, n, _, _, hl, hlen, hfs⟩ := DataW.trod_struct Tryz.underlying52 hf
  match xs, hlen with
  | [y0, y1, y2, y3, y4, y5], _ =>
  have k0 : Tryz.prog.cellsOf 3 = 1 := by kernel_rfl
  have s0 : DataW.trod enc Tryz.prog W 0 (fun _ => true) true n 3 (List.take (Tryz.prog.cellsOf 3) [c0, c1, c2, c3, c4, c5, c6, c7, c8, c9]) = some y0 := hfs 0 _ rfl
  rw [k0] at s0
  have t0 : DataW.trod enc Tryz.prog W 0 (fun _ => true) true n 3 [c0] = some y0 := s0
  clear s0
  have k1 : Tryz.prog.cellsOf 24 = 4 := by kernel_rfl
  have s1 : DataW.trod enc Tryz.prog W 0 (fun _ => true) true n 24 (List.take (Tryz.prog.cellsOf 24) [c1, c2, c3, c4, c5, c6, c7, c8, c9]) = some y1 := hfs 1 _ rfl
  rw [k1] at s1
  have t1 : DataW.trod enc Tryz.prog W 0 (fun _ => true) true n 24 [c1, c2, c3, c4] = some y1 := s1
  clear s1
  have k2 : Tryz.prog.cellsOf 22 = 1 := by kernel_rfl
  have s2 : DataW.trod enc Tryz.prog W 0 (fun _ => true) true n 22 (List.take (Tryz.prog.cellsOf 22) [c5, c6, c7, c8, c9]) = some y2 := hfs 2 _ rfl
  rw [k2] at s2
  have t2 : DataW.trod enc Tryz.prog W 0 (fun _ => true) true n 22 [c5] = some y2 := s2
  clear s2
  have k3 : Tryz.prog.cellsOf 27 = 1 := by kernel_rfl
  have s3 : DataW.trod enc Tryz.prog W 0 (fun _ => true) true n 27 (List.take (Tryz.prog.cellsOf 27) [c6, c7, c8, c9]) = some y3 := hfs 3 _ rfl
  rw [k3] at s3
  have t3 : DataW.trod enc Tryz.prog W 0 (fun _ => true) true n 27 [c6] = some y3 := s3
  clear s3
  have k4 : Tryz.prog.cellsOf 50 = 2 := by kernel_rfl
  have s4 : DataW.trod enc Tryz.prog W 0 (fun _ => true) true n 50 (List.take (Tryz.prog.cellsOf 50) [c7, c8, c9]) = some y4 := hfs 4 _ rfl
  rw [k4] at s4
  have t4 : DataW.trod enc Tryz.prog W 0 (fun _ => true) true n 50 [c7, c8] = some y4 := s4
  clear s4
  have k5 : Tryz.prog.cellsOf 28 = 1 := by kernel_rfl
  have s5 : DataW.trod enc Tryz.prog W 0 (fun _ => true) true n 28 (List.take (Tryz.prog.cellsOf 28) [c9]) = some y5 := hfs 5 _ rfl
  rw [k5] at s5
  have t5 : DataW.trod enc Tryz.prog W 0 (fun _ => true) true n 28 [c9] = some y5 := s5
  clear s5
  clear hfs hf hok hl
  obtain ⟨kd, e0, _⟩ := DataW.trod_int Tryz.underlying3 t0
  simp at e0
  subst e0
  obtain ⟨ps, r2, l2, w2⟩ : ∃ pl, Row W c5 pl ∧ pl.length ≤ 9223372036854775807 ∧ True := by
    obtain ⟨xs, h1, h2, _⟩ := open_intsT t2
    exact ⟨xs, h1, h2, trivial⟩
  obtain ⟨kss, r5, l5⟩ := open_pairsT t5
  obtain ⟨z3, m3, _, _, u3⟩ := trod_struct1 Tryz.underlying27 t3
  have v3 : DataW.trod enc Tryz.prog W 0 (fun _ => true) true m3 25 (List.take (Tryz.prog.cellsOf 25) [c6]) = some z3 := u3
  rw [show Tryz.prog.cellsOf 25 = 1 by kernel_rfl] at v3
  have v3 : DataW.trod enc Tryz.prog W 0 (fun _ => true) true m3 25 [c6] = some z3 := v3
  obtain ⟨xs3, r3, l3, l3'⟩ := open_cipherT v3
  obtain ⟨z4, z5, m4, _, _, u4, u5⟩ := trod_struct2 Tryz.underlying50 t4
  have v4 : DataW.trod enc Tryz.prog W 0 (fun _ => true) true m4 4 (List.take (Tryz.prog.cellsOf 4) [c7, c8]) = some z4 := u4
  rw [show Tryz.prog.cellsOf 4 = 1 by kernel_rfl] at v4
  have v4 : DataW.trod enc Tryz.prog W 0 (fun _ => true) true m4 4 [c7] = some z4 := v4
  have v5 : DataW.trod enc Tryz.prog W 0 (fun _ => true) true m4 22 (List.take (Tryz.prog.cellsOf 22) [c8]) = some z5 := u5
  rw [k2] at v5
  have v5 : DataW.trod enc Tryz.prog W 0 (fun _ => true) true m4 22 [c8] = some z5 := v5
  obtain ⟨sg, e7, _⟩ := DataW.trod_bool Tryz.underlying4 v4
  simp at e7
  subst e7
  obtain ⟨ls, r4, l4, _⟩ := open_intsT v5
  obtain ⟨p0, p1, p2, p3, m1, _, _, q0, q1, q2, q3⟩ := trod_struct4 Tryz.underlying24 t1
  have o0 : DataW.trod enc Tryz.prog W 0 (fun _ => true) true m1 3 (List.take (Tryz.prog.cellsOf 3) [c1, c2, c3, c4]) = some p0 := q0
  rw [k0] at o0
  have o0 : DataW.trod enc Tryz.prog W 0 (fun _ => true) true m1 3 [c1] = some p0 := o0
  have o1 : DataW.trod enc Tryz.prog W 0 (fun _ => true) true m1 3 (List.take (Tryz.prog.cellsOf 3) [c2, c3, c4]) = some p1 := q1
  rw [k0] at o1
  have o1 : DataW.trod enc Tryz.prog W 0 (fun _ => true) true m1 3 [c2] = some p1 := o1
  have o2 : DataW.trod enc Tryz.prog W 0 (fun _ => true) true m1 3 (List.take (Tryz.prog.cellsOf 3) [c3, c4]) = some p2 := q2
  rw [k0] at o2
  have o2 : DataW.trod enc Tryz.prog W 0 (fun _ => true) true m1 3 [c3] = some p2 := o2
  have o3 : DataW.trod enc Tryz.prog W 0 (fun _ => true) true m1 22 (List.take (Tryz.prog.cellsOf 22) [c4]) = some p3 := q3
  rw [k2] at o3
  have o3 : DataW.trod enc Tryz.prog W 0 (fun _ => true) true m1 22 [c4] = some p3 := o3
  obtain ⟨N, e1, _⟩ := DataW.trod_int Tryz.underlying3 o0
  obtain ⟨T, e2, _⟩ := DataW.trod_int Tryz.underlying3 o1
  obtain ⟨E, e3, _⟩ := DataW.trod_int Tryz.underlying3 o2
  simp at e1 e2 e3
  subst e1 e2 e3
  obtain ⟨pr, r1, l1, w1⟩ := open_intsT o3
  obtain ⟨a0, d0, rfl⟩ := r1.slice
  obtain ⟨a1, d1, rfl⟩ := r2.slice
  obtain ⟨a2, d2, rfl⟩ := r3.slice
  obtain ⟨a3, d3, rfl⟩ := r4.slice
  obtain ⟨a4, d4, rfl⟩ := r5.slice
  exact ⟨kd, N, T, E, pr, ps, xs3, sg, ls, kss, ⟨a0, d0, a1, d1, a2, d2, a3, d3, a4, d4, rfl, r1, r2, r3, r4, r5⟩, ⟨l1, l2, l3, l3', l4, l5.1, l5.2⟩, w1⟩
end Go.Proofs.YtanijpekdnkicaaGreatDoor
